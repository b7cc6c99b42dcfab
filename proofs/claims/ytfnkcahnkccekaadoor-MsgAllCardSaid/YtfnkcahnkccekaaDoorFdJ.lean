/- A builder beside a row of texts; (*strings.Builder).Reset. -/
import Derived.Test.YtfnkcahnkccekaaDoorFsh
import Derived.Test.YtfnkcahnkccekaaDoorFdI
namespace Go.Proofs.YtfnkcahnkccekaaDoor
open Go.RowKit
set_option linter.unusedVariables false
theorem row_others {w w' : World} {base n : Nat} {e e' : TypeId} {v : Value} {xs : List Value} {b : Nat} (h : w.ownsRow base e 1 v n xs) (k : Lib.OthersKept e' (some b) w w') (hne : e ≠ e') (hb : v.ownBlock ≠ some b) : w'.ownsRow base e 1 v n xs := by
  obtain ⟨h1, h2⟩ := h
  refine ⟨h1, ?_⟩
  rcases h2 with h2 | ⟨g', cap, cur, rfl, hb', hh, hc⟩
  · exact .inl h2
  · exact .inr ⟨g', cap, cur, rfl, hb', k g' _ hh (fun hg => hb hg) (fun c fz hcc => by injection hcc with _ h3 _; exact hne h3), hc⟩
theorem row_notb {w : World} {base n : Nat} {e T e' : TypeId} {v : Value} {xs bs : List Value} {B b : Nat} (h : w.ownsRow base e 1 v n xs) (hb : Lib.IsBuilderF T e' B b bs w) (hne : e ≠ T) : v.ownBlock ≠ some b := by
  intro hv
  rcases h.2 with ⟨rfl, _⟩ | ⟨g', cap, cur, rfl, _, hh, _⟩
  · cases hv
  · injection hv with hv
    subst hv
    rcases hb with ⟨_, u, h3, _⟩ | ⟨_, u, h3, _⟩ <;>
      · rw [hh] at h3
        injection h3 with h3
        injection h3 with _ h4 _
        exact hne h4
theorem ownsRowF_kp {S : Nat → Prop} {w w' : World} {base : Nat} {e : TypeId} {size n : Nat} {v : Value} {xs : List Value} (h : w.ownsRowF base e size v n xs) (k : Kp S w w') (hv : ∀ g, v.ownBlock = some g → ¬ S g) : w'.ownsRowF base e size v n xs := by
  obtain ⟨h1, h2⟩ := h
  refine ⟨h1, ?_⟩
  rcases h2 with h2 | ⟨g', cap, cur, fz, rfl, hb, hh, hc⟩
  · exact .inl h2
  · have hlt : g' < w.heap.size := (Array.getElem?_eq_some_iff.1 hh).1
    exact .inr ⟨g', cap, cur, fz, rfl, hb, (k.block g' hlt (hv g' rfl)).trans hh, hc⟩
theorem bat_kp {w w' : World} {base n : Nat} {e T e' : TypeId} {v p : Value} {xs bs : List Value} {B b : Nat} (h : w.ownsRow base e 1 v n xs) (hb : Lib.BuilderAtF T e' B b p bs w) (hne : e ≠ T) (hne' : e ≠ e') (k : Kp (fun j => v.ownBlock = some j) w w') : Lib.BuilderAtF T e' B b p bs w' := by
  have hlt := hb.lt
  obtain ⟨h1, u, h2, h3, h4⟩ := hb
  have hvt : ∀ g c t fz, w.heap[g]? = some (.cells c t fz) → e ≠ t → v.ownBlock ≠ some g := by
    intro g c t fz hg ht hv
    rcases h.2 with ⟨rfl, _⟩ | ⟨g', cap, cur, rfl, _, hh, _⟩
    · cases hv
    · injection hv with hv
      subst hv
      rw [hh] at hg
      injection hg with hg
      injection hg with _ h5 _
      exact ht h5
  refine ⟨h1, u, (k.block b hlt (hvt b _ _ _ h2 hne)).trans h2, ownsRowF_kp h3 k (fun g hg => ?_), h4⟩
  rcases h3.2 with ⟨rfl, _⟩ | ⟨g2, cap, cur, fz, rfl, _, hgg, _⟩
  · cases hg
  · injection hg with hg
    subst hg
    exact hvt _ _ _ _ hgg hne'
theorem isb_kp {w w' : World} {base n : Nat} {e T e' : TypeId} {v : Value} {xs bs : List Value} {B b : Nat} (h : w.ownsRow base e 1 v n xs) (hb : Lib.IsBuilderF T e' B b bs w) (hne : e ≠ T) (hne' : e ≠ e') (k : Kp (fun j => v.ownBlock = some j) w w') : Lib.IsBuilderF T e' B b bs w' :=
  hb.elim (fun x => .inl (bat_kp h x hne hne' k)) (fun x => .inr (bat_kp h x hne hne' k))
theorem isb_cells {T e' : TypeId} {bs : List Value} {B b : Nat} {w : World} (hb : Lib.IsBuilderF T e' B b bs w) : ∃ p v, w.heap[b]? = some (.cells #[p, v] T (0, 0)) ∧ B ≤ b ∧ b < w.heap.size := by
  rcases hb with h | h <;>
    · have hl := h.lt
      obtain ⟨h1, v, h2, _⟩ := h
      exact ⟨_, v, h2, h1, hl⟩
end Go.Proofs.YtfnkcahnkccekaaDoor
