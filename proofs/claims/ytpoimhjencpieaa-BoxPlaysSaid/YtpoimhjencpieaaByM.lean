/- Facts on byD: which keys the map of the first of each has. -/
import Derived.Test.YtpoimhjencpieaaCom
import Derived.Test.YtpoimhjencpieaaDst
namespace Go.Proofs.Ytpoimhjencpieaa
open Go.Maps
theorem byD_has {H : Type} (who : Int → Int) (l : List Int) : IsMap (byD (H := H) who l) ∧ ∀ k : Int, Maps.has (byD (H := H) who l) (.int .i64 k) = true ↔ ∃ x ∈ l, who x = k := by
  suffices h : ∀ n, n ≤ l.length → IsMap (byD (H := H) who (l.take n)) ∧ ∀ k : Int, Maps.has (byD (H := H) who (l.take n)) (.int .i64 k) = true ↔ ∃ x ∈ l.take n, who x = k by
    simpa using h l.length (Nat.le_refl _)
  intro n
  induction n with
  | zero => intro _; exact ⟨by simp [byD, IsMap], fun k => by simp [byD, Maps.has]⟩
  | succ n ih =>
    intro hn
    obtain ⟨h1, h2⟩ := ih (by omega)
    have hts : l.take (n + 1) = l.take n ++ [l[n]] := by rw [List.take_succ_eq_append_getElem (by omega)]
    rw [hts]
    generalize l[n] = z at *
    by_cases hb : Maps.has (byD (H := H) who (l.take n)) (.int .i64 (who z)) = true
    · rw [byD_yes hb]
      refine ⟨h1, fun k => ?_⟩
      rw [h2]
      constructor
      · rintro ⟨x, hx, rfl⟩; exact ⟨x, by simp [hx], rfl⟩
      · rintro ⟨x, hx, rfl⟩
        rcases List.mem_append.1 hx with hx | hx
        · exact ⟨x, hx, rfl⟩
        · obtain rfl : x = z := by simpa using hx
          exact (h2 _).1 hb
    · have hb' : Maps.has (byD (H := H) who (l.take n)) (.int .i64 (who z)) = false := by simpa using hb
      rw [byD_no hb']
      refine ⟨h1.put _ _, fun k => ?_⟩
      by_cases hk : k = who z
      · subst hk
        rw [has_put_same h1 (by simp [WideAt.IsKeyLit])]
        exact ⟨fun _ => ⟨z, by simp, rfl⟩, fun _ => rfl⟩
      · rw [has_put_other (by intro h; injection h with _ h; exact hk h), h2]
        constructor
        · rintro ⟨x, hx, rfl⟩; exact ⟨x, by simp [hx], rfl⟩
        · rintro ⟨x, hx, rfl⟩
          rcases List.mem_append.1 hx with hx | hx
          · exact ⟨x, hx, rfl⟩
          · obtain rfl : x = z := by simpa using hx
            exact absurd rfl hk
theorem inB_iff (b : List Int) (x : Int) : inB b x = true ↔ x ∈ b := by
  have := (byD_has (H := Unit) (fun x : Int => x) b).2 x
  simpa [inB, selfD] using this
theorem comI_facts (a b : List Int) : (comI a b).Pairwise (· < ·) ∧ ∀ x, x ∈ comI a b ↔ x ∈ a ∧ x ∈ b := by
  obtain ⟨h1, h2⟩ := distI_facts a
  refine ⟨h1.filter _, fun x => ?_⟩
  rw [comI, List.mem_filter, h2, inB_iff]
end Go.Proofs.Ytpoimhjencpieaa
