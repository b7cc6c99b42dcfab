/- Trees of made leaves: the plain mathematics. -/
import Derived.Test.YtlhjkgohojcbpaaMkK
namespace Go.Proofs.Ytlhjkgohojcbpaa
open Go.RowKit
set_option linter.unusedVariables false
theorem addr_add1 (a : Addr) : a.add 1 = ⟨a.block, a.off + 1, none⟩ := by unfold Addr.add; simp
def tagX : List UInt8 := [120]
noncomputable def leafL (s n : Nat) : List Nat := (List.range n).map fun i => twoN tagX s i
theorem leafL_length (s n : Nat) : (leafL s n).length = n := by simp [leafL]
theorem leafL_lt (s n : Nat) : ∀ x ∈ leafL s n, x < 18446744073709551616 := by
  intro x hx
  obtain ⟨i, _, rfl⟩ := List.mem_map.1 hx
  exact twoN_lt _ _ _
theorem leafL_succ (s n : Nat) : leafL s (n + 1) = leafL s n ++ [twoN tagX s n] := by
  simp [leafL, List.range_succ]
theorem leavesOk_pow_all : ∀ h : Fin 9, leavesOk (2 ^ h.val) = true := by decide +kernel
theorem leavesOk_pow (h : Nat) (hh : h ≤ 8) : leavesOk (2 ^ h) = true := leavesOk_pow_all ⟨h, by omega⟩
theorem pow_nat8 (h : Nat) (hh : h ≤ 8) : 1 ≤ 2 ^ h ∧ 2 ^ h ≤ 256 := by
  have := leaves_le _ (leavesOk_pow h hh)
  omega
theorem path_pow (h : Nat) (hh : h ≤ 8) (l : List Nat) (i : Nat) (hl : l.length = 2 ^ h) (hi : i < l.length) : (pathN l i).length = h ∧ climbN (l.getD i 0) i (pathN l i) = rootN l := by
  have h1 := climb_path h l i hl hi
  have h2 := pow_nat8 h hh
  unfold pathN rootN
  rw [pathF_fuel 9 h l i (by omega) (by omega), rootF_fuel 9 h l (by omega) (by omega)]
  exact ⟨h1.2, h1.1⟩
theorem upL_append (l1 : List Nat) : ∀ (l2 : List Nat), l1.length % 2 = 0 → upL (l1 ++ l2) = upL l1 ++ upL l2 := by
  induction l1 using upL.induct with
  | case1 a b l ih =>
    intro l2 h
    simp only [List.cons_append, upL, ih l2 (by simp only [List.length_cons] at h; omega)]
  | case2 l hh =>
    intro l2 h
    match l, hh with
    | [], _ => simp [upL]
    | [a], _ => simp at h
    | a :: b :: l, hh => exact absurd rfl (hh a b l)
theorem rootF_halves (m : Nat) : ∀ (l1 l2 : List Nat), l1.length = 2 ^ m → l2.length = 2 ^ m → rootF (m + 1) (l1 ++ l2) = twoN tagMt (rootF m l1) (rootF m l2) := by
  induction m with
  | zero =>
    intro l1 l2 h1 h2
    match l1, l2, h1, h2 with
    | [x], [y], _, _ => rfl
  | succ m ih =>
    intro l1 l2 h1 h2
    have hp := Nat.two_pow_pos m
    rw [Nat.pow_succ] at h1 h2
    rw [rootF_step (m + 1) _ (by rw [List.length_append]; omega), upL_append l1 l2 (by omega), ih _ _ (by rw [upL_length]; omega) (by rw [upL_length]; omega), rootF_step m l1 (by omega), rootF_step m l2 (by omega)]
theorem pathF_last (m : Nat) : ∀ (l1 l2 : List Nat), l1.length = 2 ^ m → l2.length = 2 ^ m → (pathF (m + 1) (l1 ++ l2) 0).getD m 0 = rootF m l2 := by
  induction m with
  | zero =>
    intro l1 l2 h1 h2
    match l1, l2, h1, h2 with
    | [x], [y], _, _ => rfl
  | succ m ih =>
    intro l1 l2 h1 h2
    have hp := Nat.two_pow_pos m
    rw [Nat.pow_succ] at h1 h2
    rw [pathF, if_neg (by rw [List.length_append]; omega), upL_append l1 l2 (by omega), List.getD_cons_succ, ih _ _ (by rw [upL_length]; omega) (by rw [upL_length]; omega), rootF_step m l2 (by omega)]
theorem halves (m : Nat) (hm : m ≤ 7) (l : List Nat) (hl : l.length = 2 ^ (m + 1)) : rootN l = twoN tagMt (rootN (l.take (2 ^ m))) (rootN (l.drop (2 ^ m))) ∧ (pathN l 0).length = m + 1 ∧ (pathN l 0).getD m 0 = rootN (l.drop (2 ^ m)) ∧ (pathN l 0).getD 0 0 = l.getD 1 0 := by
  have h8 := pow_nat8 (m + 1) (by omega)
  have hp := pow_nat8 m (by omega)
  have h2 : 2 ^ (m + 1) = 2 * 2 ^ m := by rw [Nat.pow_succ]; omega
  have ht : (l.take (2 ^ m)).length = 2 ^ m := by rw [List.length_take]; omega
  have hd : (l.drop (2 ^ m)).length = 2 ^ m := by rw [List.length_drop]; omega
  have e := List.take_append_drop (2 ^ m) l
  have hr := rootF_halves m _ _ ht hd
  have hq := pathF_last m _ _ ht hd
  rw [e] at hr hq
  have h1 := (path_pow (m + 1) (by omega) l 0 hl (by omega)).1
  have hst := pathN_step l 0 (by omega) (by omega)
  refine ⟨?_, h1, ?_, by rw [hst]; rfl⟩
  · unfold rootN
    rw [rootF_fuel 9 (m + 1) l (by omega) (by omega), hr, rootF_fuel m 9 _ (by omega) (by omega), rootF_fuel m 9 _ (by omega) (by omega)]
  · unfold rootN pathN
    rw [pathF_fuel 9 (m + 1) l 0 (by omega) (by omega), hq, rootF_fuel m 9 _ (by omega) (by omega)]
theorem upL_set (l : List Nat) (i x : Nat) (hi : i < l.length) (he : l.length % 2 = 0) : ∃ y, upL (l.set i x) = (upL l).set (i / 2) y := by
  have hh : i / 2 < (upL (l.set i x)).length := by rw [upL_length, List.length_set]; omega
  refine ⟨(upL (l.set i x))[i / 2], ?_⟩
  apply List.ext_getElem
  · rw [List.length_set, upL_length, upL_length, List.length_set]
  · intro k h1 h2
    rw [List.getElem_set]
    by_cases hk : i / 2 = k
    · subst hk
      rw [if_pos rfl]
    · rw [if_neg hk, upL_get, upL_get, List.getElem_set_ne (by omega), List.getElem_set_ne (by omega)]
theorem xor_one_ne (i : Nat) : i ^^^ 1 ≠ i := by
  rcases Nat.mod_two_eq_zero_or_one i with h | h
  · obtain ⟨m, rfl⟩ : ∃ m, i = 2 * m := ⟨i / 2, by omega⟩
    rw [xor_even]; omega
  · obtain ⟨m, rfl⟩ : ∃ m, i = 2 * m + 1 := ⟨i / 2, by omega⟩
    rw [xor_odd]; omega
theorem pathF_set (n : Nat) : ∀ (l : List Nat) (i x : Nat), l.length = 2 ^ n → i < l.length → pathF n (l.set i x) i = pathF n l i := by
  induction n with
  | zero => intro l i x h hi; rfl
  | succ n ih =>
    intro l i x h hi
    have hp := Nat.two_pow_pos n
    rw [Nat.pow_succ] at h
    obtain ⟨y, hy⟩ := upL_set l i x hi (by omega)
    rw [pathF, pathF, List.length_set, if_neg (by omega), if_neg (by omega), hy, ih (upL l) (i / 2) y (by rw [upL_length]; omega) (by rw [upL_length]; omega)]
    congr 1
    rw [List.getD_eq_getElem?_getD, List.getD_eq_getElem?_getD, List.getElem?_set_ne (Ne.symm (xor_one_ne i))]
theorem climb_set (h : Nat) (hh : h ≤ 8) (l : List Nat) (i x : Nat) (hl : l.length = 2 ^ h) (hi : i < l.length) : climbN x i (pathN l i) = rootN (l.set i x) := by
  have h2 := pow_nat8 h hh
  have h1 := (path_pow h hh (l.set i x) i (by rw [List.length_set]; exact hl) (by rw [List.length_set]; exact hi)).2
  rw [getD_lt _ i (by rw [List.length_set]; exact hi), List.getElem_set_self] at h1
  rw [← h1]
  congr 1
  unfold pathN
  rw [pathF_fuel 9 h l i (by omega) (by omega), pathF_fuel 9 h _ i (by rw [List.length_set]; omega) (by rw [List.length_set]; omega), pathF_set h l i x hl hi]
theorem Rd.drop_ {w : World} {B : Nat} {ad : Addr} {l : List Nat} (h : Rd w B (some ad) (u64L l)) (n : Nat) : Rd w B (some (ad.add n)) (u64L (l.drop n)) := by
  intro k hk
  have hk' : n + k < l.length := by simp [u64L] at hk; omega
  obtain ⟨ad', h1, h2, h3⟩ := h (n + k) (by simpa [u64L] using hk')
  injection h1 with h1
  subst h1
  refine ⟨_, rfl, by rw [blk_add]; exact h2, ?_⟩
  rw [addr_add, h3]
  simp [u64L]
end Go.Proofs.Ytlhjkgohojcbpaa
