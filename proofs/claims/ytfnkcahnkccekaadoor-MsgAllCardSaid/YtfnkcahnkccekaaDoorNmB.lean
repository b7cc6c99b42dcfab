/- isNum. -/
import Derived.Test.YtfnkcahnkccekaaDoorNmA
import Derived.Test.YtfnkcahnkccekaaDoorFdK
namespace Go.Proofs.YtfnkcahnkccekaaDoor
open Go.RowKit
set_option linter.unusedVariables false
theorem trim_body (l : List UInt8) : Lib.trimPrefix l [45] = body l := by
  unfold Lib.trimPrefix body minus
  cases l with
  | nil => rfl
  | cons a t =>
    by_cases h : a = 45
    · subst h; simp [Lib.hasPrefix]
    · simp [Lib.hasPrefix, h, Ne.symm h]
theorem isNumB_alt {l : List UInt8} (h : l ≠ [48]) : isNumB l = (decide (body l ≠ []) && decide ((body l).head? ≠ some 48) && (body l).all dig) := by
  unfold isNumB isDec
  by_cases hb : body l = [48]
  · have hm : minus l = true := by
      cases hm : minus l with
      | true => rfl
      | false => exact absurd (by unfold body at hb; rw [hm] at hb; exact hb) h
    rw [hb, hm]; rfl
  · simp [hb]
theorem ba_eq_iff (s : ByteArray) (l : List UInt8) : (s = ⟨l.toArray⟩) ↔ s.data.toList = l := by
  constructor
  · rintro rfl; simp
  · intro h; apply ByteArray.ext; rw [← h]
theorem ba_empty {s : ByteArray} (h : s.size = 0) : s = ⟨#[]⟩ := by
  cases s with
  | mk d => congr 1; exact Array.eq_empty_of_size_eq_zero h
theorem ba_some {s : ByteArray} (h : 0 < s.size) : s.toList.isEmpty = false := by
  rw [ByteArray.toList_eq]
  cases hl : s.data.toList with
  | nil => exact absurd (by have h3 := congrArg List.length hl; simpa using h3) (show s.size ≠ 0 by omega)
  | cons _ _ => rfl
theorem ba_some' {s : ByteArray} (h : 0 < s.size) : ¬ s.toList = [] := fun e => by
  have := ba_some h
  rw [e] at this; simp at this
theorem ba_len (s : ByteArray) : s.data.toList.length = s.size := by simp
theorem ba_head {s : ByteArray} (h : 0 < s.size) : s.data.toList.head? = some s[0] := by
  rw [List.head?_eq_getElem?, List.getElem?_eq_getElem (by rw [ba_len]; exact h)]; rfl
theorem all_take {p : UInt8 → Bool} (s : ByteArray) (k : Nat) (h : k < s.size) (h1 : (s.data.toList.take k).all p = true) (h2 : p s[k] = true) : (s.data.toList.take (k + 1)).all p = true := by
  rw [take_byte s k h, List.all_append, h1]; simp [h2]
theorem all_not {p : UInt8 → Bool} (s : ByteArray) (k : Nat) (h : k < s.size) (h2 : p s[k] = false) : s.data.toList.all p = false := by
  rw [List.all_eq_false]
  exact ⟨s[k], by
    have hk : k < s.data.toList.length := by rw [ba_len]; exact h
    have := List.getElem_mem hk
    exact this, by simp [h2]⟩
theorem dig_int {c : UInt8} : dig c = true ↔ (48 ≤ (c.toNat : Int) ∧ (c.toNat : Int) ≤ 57) := by
  unfold dig; simp; omega
end Go.Proofs.YtfnkcahnkccekaaDoor
