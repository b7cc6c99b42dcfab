/- A slice of texts, opened to be read. -/
import Derived.ChangeArms
import Derived.Test.YthbphlbjjoddeaaDoorStr
import Derived.Test.YthbphlbjjoddeaaDoorLaw
namespace Go.Proofs.YthbphlbjjoddeaaDoor
open Go.RowKit Go.ChangeShapes Go.WideShapes Go.ChangeMaps
set_option linter.unusedVariables false
section
variable {H : Type} {enc : TypeId × Value → H} {P : Program}
theorem open_strs_rd {W : World} {r : Reach} {b0 : Nat} {t e : TypeId} {v : Value} {d : DataW H} {ps : List MemPlace} (ht : P.underlying t = some (.slice e)) (he : P.underlying e = some .string) (hc : P.cellsOf e = 1)
    (hval : Value.okWide P W r b0 t v) (h : DataW.Trod enc P W 0 (fun _ => true) true t v d ps) :
    ∃ (A : Option Addr) (c : Nat) (l : List ByteArray), v = .slice A l.length c ∧ l.length ≤ c ∧ c ≤ maxLen ∧ Rd W W.heap.size A (strL l) := by
  obtain ⟨A, c, xs, rfl, h1, h2, h3, h4⟩ := open_cells ht hc hval h
  have key : ∀ xs : List Value, (∀ x ∈ xs, ∃ n d' ps', DataW.trod enc P W 0 (fun _ => true) true n e [x] = some (d', ps')) → ∃ l, xs = strL l := by
    intro xs
    induction xs with
    | nil => intro _; exact ⟨[], rfl⟩
    | cons x xs ih =>
      intro hx
      obtain ⟨l, rfl⟩ := ih (fun y hy => hx y (List.mem_cons_of_mem _ hy))
      obtain ⟨n, d', ps', hn⟩ := hx x List.mem_cons_self
      obtain ⟨s, hs, _, _⟩ := DataW.trod_string he hn
      injection hs with hs
      exact ⟨s :: l, by rw [hs]; rfl⟩
  obtain ⟨l, rfl⟩ := key xs h4
  exact ⟨A, c, l, by rw [strL_length], by rwa [strL_length] at h1, h2, h3⟩
end
end Go.Proofs.YthbphlbjjoddeaaDoor
