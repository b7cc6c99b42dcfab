/- The literals of layer 6's known, reckoned. -/
import Derived.Test.YtpoimhjencpieaaByM
namespace Go.Proofs.Ytpoimhjencpieaa
open Go.RowKit Go.Maps
theorem asc_eq : ∀ (d e : List Int), d.Pairwise (· < ·) → e.Pairwise (· < ·) → (∀ x, x ∈ d ↔ x ∈ e) → d = e
  | [], [], _, _, _ => rfl
  | [], b :: e, _, _, h => absurd ((h b).2 (by simp)) (by simp)
  | a :: d, [], _, _, h => absurd ((h a).1 (by simp)) (by simp)
  | a :: d, b :: e, hd, he, h => by
    rw [List.pairwise_cons] at hd he
    have hab : a = b := by
      have h1 : a ∈ b :: e := (h a).1 (by simp)
      have h2 : b ∈ a :: d := (h b).2 (by simp)
      rcases List.mem_cons.1 h1 with h1 | h1
      · exact h1
      · rcases List.mem_cons.1 h2 with h2 | h2
        · exact h2.symm
        · have := he.1 a h1; have := hd.1 b h2; omega
    subst hab
    congr 1
    refine asc_eq d e hd.2 he.2 fun x => ⟨fun hx => ?_, fun hx => ?_⟩
    · have := hd.1 x hx
      rcases List.mem_cons.1 ((h x).1 (by simp [hx])) with h1 | h1
      · omega
      · exact h1
    · have := he.1 x hx
      rcases List.mem_cons.1 ((h x).2 (by simp [hx])) with h1 | h1
      · omega
      · exact h1
theorem distI_eq (l d : List Int) (hd : d.Pairwise (· < ·)) (hm : ∀ x, x ∈ d ↔ x ∈ l) : distI l = d :=
  asc_eq _ _ (distI_facts l).1 hd fun x => ((distI_facts l).2 x).trans (hm x).symm
theorem lit_dist : distI [3, 1, 3] = [1, 3] := distI_eq _ _ (by decide) (fun x => by simp; omega)
theorem lit_cnt1 : cntN (3 * 1 + 1) (distI [0, 3, 1, 3]) = 3 := by rw [distI_eq [0, 3, 1, 3] [0, 1, 3] (by decide) (fun x => by simp; omega)]; decide
theorem lit_cnt2 : cntN (3 * 1 + 1) (distI [0, 4, 1, -1]) = 2 := by rw [distI_eq [0, 4, 1, -1] [-1, 0, 1, 4] (by decide) (fun x => by simp; omega)]; decide
theorem lit_com : comI [2, 1, 2] [3, 2] = [2] := asc_eq _ _ (comI_facts _ _).1 (by decide) fun x => by rw [(comI_facts _ _).2]; simp; omega
theorem lit_size : Maps.size (byD (H := Unit) (fun x : Int => x.tdiv 10) [12, 25, 13]) = 2 := by decide +kernel
theorem lit_at1 : (byD (H := Unit) (fun x : Int => x.tdiv 10) [12, 25, 13]).atKey (.int .i64 1) (.lit (.int .i64 0)) = .lit (.int .i64 12) := by rfl
theorem lit_at2 : (byD (H := Unit) (fun x : Int => x.tdiv 10) [12, 25, 13]).atKey (.int .i64 2) (.lit (.int .i64 0)) = .lit (.int .i64 25) := by rfl
/-- What stands while known runs: the Conf's cell, the map of the tens. -/
def KQ (w W : World) : Prop :=
  W.cell? ⟨w.heap.size, 0, none⟩ = some (.int .i64 1) ∧ W.ownsMap Try.prog 3 (plainElem Try.prog 3) (w.heap.size + 2) 3 (byD (H := Unit) (fun x : Int => x.tdiv 10) [12, 25, 13]) ∧ Below w.heap.size w W ∧ w.heap.size + 2 < W.heap.size
theorem KQ.step {w W W' : World} (h : KQ w W) (hb : Below W.heap.size W W') : KQ w W' := by
  obtain ⟨h1, h2, h3, h4⟩ := h
  exact ⟨(hb.cell (p := ⟨w.heap.size, 0, none⟩) (by simp only; omega)).trans h1, ownsMap_below h2 hb h4, h3.trans (hb.mono (by omega)), Nat.lt_of_lt_of_le h4 hb.size⟩
theorem KQ.alloc {w W : World} (h : KQ w W) (o : Obj) : KQ w (W.alloc o) := h.step ((Below.refl _ W).alloc (Nat.le_refl _) o)
end Go.Proofs.Ytpoimhjencpieaa
