/- Trees: the plain mathematics: roots, ways, climbing. -/
import Derived.Test.YtlhjkgohojcbpaaMkB
namespace Go.Proofs.Ytlhjkgohojcbpaa
open Go.RowKit
set_option linter.unusedVariables false
/-- a level's root, with so many levels at most -/
noncomputable def rootF : Nat → List Nat → Nat
  | 0, l => l.headD 0
  | n + 1, l => if l.length ≤ 1 then l.headD 0 else rootF n (upL l)
/-- a leaf's way, with so many levels at most -/
noncomputable def pathF : Nat → List Nat → Nat → List Nat
  | 0, _, _ => []
  | n + 1, l, i => if l.length ≤ 1 then [] else l.getD (i ^^^ 1) 0 :: pathF n (upL l) (i / 2)
noncomputable def rootN (l : List Nat) : Nat := rootF 9 l
noncomputable def pathN (l : List Nat) (i : Nat) : List Nat := pathF 9 l i
noncomputable def climbN (x : Nat) (i : Nat) : List Nat → Nat
  | [] => x
  | p :: ps => climbN (if i % 2 = 0 then twoN tagMt x p else twoN tagMt p x) (i / 2) ps
theorem leavesOk_half_all : ∀ n : Fin 257, leavesOk n.val = true → n.val ≠ 1 → leavesOk (n.val / 2) = true ∧ n.val % 2 = 0 := by decide +kernel
theorem leavesOk_half (n : Nat) (h : leavesOk n = true) (h1 : n ≠ 1) : leavesOk (n / 2) = true ∧ n % 2 = 0 := leavesOk_half_all ⟨n, by have := leaves_le n h; omega⟩ h h1
theorem leavesOk_cases (n : Nat) (h : leavesOk n = true) : n = 1 ∨ n = 2 ∨ n = 4 ∨ n = 8 ∨ n = 16 ∨ n = 32 ∨ n = 64 ∨ n = 128 ∨ n = 256 := by
  unfold leavesOk pow2B at h
  simpa using h
theorem rootF_step (n : Nat) (l : List Nat) (h : 1 < l.length) : rootF (n + 1) l = rootF n (upL l) := by
  rw [rootF, if_neg (by omega)]
theorem rootF_one (n : Nat) (x : Nat) : rootF n [x] = x := by
  cases n with
  | zero => rfl
  | succ n => rw [rootF, if_pos (by simp)]; rfl
/-- how many levels so many leaves have -/
def lev : Nat → Nat → Nat
  | 0, _ => 0
  | n + 1, k => if k ≤ 1 then 0 else lev n (k / 2) + 1
theorem rootF_fuel (n m : Nat) (l : List Nat) (hn : l.length ≤ 2 ^ n) (hm : l.length ≤ 2 ^ m) : rootF n l = rootF m l := by
  induction n generalizing m l with
  | zero =>
    cases m with
    | zero => rfl
    | succ m =>
      rw [rootF, rootF, if_pos (by simpa using hn)]
  | succ n ih =>
    cases m with
    | zero => rw [rootF, rootF, if_pos (by simpa using hm)]
    | succ m =>
      rw [rootF, rootF]
      by_cases h : l.length ≤ 1
      · rw [if_pos h, if_pos h]
      · rw [if_neg h, if_neg h]
        apply ih
        · rw [upL_length]; rw [Nat.pow_succ] at hn; omega
        · rw [upL_length]; rw [Nat.pow_succ] at hm; omega
theorem rootN_step (l : List Nat) (h : 1 < l.length) (h2 : l.length ≤ 256) : rootN l = rootN (upL l) := by
  unfold rootN
  rw [rootF_step 8 l h]
  exact rootF_fuel 8 9 _ (by rw [upL_length]; omega) (by rw [upL_length]; omega)
theorem rootN_one (x : Nat) : rootN [x] = x := rootF_one 9 x
theorem pathF_fuel (n m : Nat) (l : List Nat) (i : Nat) (hn : l.length ≤ 2 ^ n) (hm : l.length ≤ 2 ^ m) : pathF n l i = pathF m l i := by
  induction n generalizing m l i with
  | zero =>
    cases m with
    | zero => rfl
    | succ m =>
      rw [pathF, pathF, if_pos (by simpa using hn)]
  | succ n ih =>
    cases m with
    | zero => rw [pathF, pathF, if_pos (by simpa using hm)]
    | succ m =>
      rw [pathF, pathF]
      by_cases h : l.length ≤ 1
      · rw [if_pos h, if_pos h]
      · rw [if_neg h, if_neg h, ih m (upL l) (i / 2)]
        · rw [upL_length]; rw [Nat.pow_succ] at hn; omega
        · rw [upL_length]; rw [Nat.pow_succ] at hm; omega
theorem pathN_step (l : List Nat) (i : Nat) (h : 1 < l.length) (h2 : l.length ≤ 256) : pathN l i = l.getD (i ^^^ 1) 0 :: pathN (upL l) (i / 2) := by
  unfold pathN
  rw [pathF, if_neg (by omega), pathF_fuel 8 9 _ _ (by rw [upL_length]; omega) (by rw [upL_length]; omega)]
theorem pathN_one (x i : Nat) : pathN [x] i = [] := by
  unfold pathN
  rw [pathF, if_pos (by simp)]
theorem xor_one_all : ∀ i : Fin 256, (i.val ^^^ 1) / 2 = i.val / 2 := by decide +kernel
theorem xor_one_lt (i n : Nat) (h : i < n) (hn : n ≤ 256) (he : n % 2 = 0) : i ^^^ 1 < n := by
  have := xor_one_all ⟨i, by omega⟩
  simp only at this
  omega
theorem rootN_lt (l : List Nat) (h : ∀ n ∈ l, n < 18446744073709551616) : rootN l < 18446744073709551616 := by
  unfold rootN
  have key : ∀ (m : Nat) (l : List Nat), (∀ n ∈ l, n < 18446744073709551616) → rootF m l < 18446744073709551616 := by
    intro n
    induction n with
    | zero =>
      intro l h
      rw [rootF]
      cases l with
      | nil => simp
      | cons a l => exact h a List.mem_cons_self
    | succ n ih =>
      intro l h
      rw [rootF]
      split
      · cases l with
        | nil => simp
        | cons a l => exact h a List.mem_cons_self
      · exact ih _ (upL_lt l)
  exact key 9 l h
theorem pathN_lt (l : List Nat) (i : Nat) (h : ∀ n ∈ l, n < 18446744073709551616) : ∀ n ∈ pathN l i, n < 18446744073709551616 := by
  unfold pathN
  have key : ∀ (m : Nat) (l : List Nat) (i : Nat), (∀ n ∈ l, n < 18446744073709551616) → ∀ n ∈ pathF m l i, n < 18446744073709551616 := by
    intro n
    induction n with
    | zero =>
      intro l i h x hx
      rw [pathF] at hx
      cases hx
    | succ n ih =>
      intro l i h x hx
      rw [pathF] at hx
      split at hx
      · cases hx
      · rcases List.mem_cons.1 hx with rfl | hx
        · rw [List.getD_eq_getElem?_getD]
          cases hg : l[i ^^^ 1]? with
          | none => simp
          | some y => exact h y (List.mem_of_getElem? hg)
        · exact ih _ _ (upL_lt l) x hx
  exact key 9 l i h
theorem pathN_length (l : List Nat) (i : Nat) : (pathN l i).length ≤ 9 := by
  unfold pathN
  have key : ∀ (n : Nat) (l : List Nat) (i : Nat), (pathF n l i).length ≤ n := by
    intro n
    induction n with
    | zero => intro l i; rw [pathF]; simp
    | succ n ih =>
      intro l i
      rw [pathF]
      split
      · simp
      · have := ih (upL l) (i / 2); simp; omega
  exact key 9 l i
theorem climbN_lt (ps : List Nat) : ∀ (x i : Nat), x < 18446744073709551616 → climbN x i ps < 18446744073709551616 := by
  induction ps with
  | nil => intro x i h; exact h
  | cons p ps ih =>
    intro x i h
    rw [climbN]
    apply ih
    split <;> exact twoN_lt _ _ _
theorem climbN_take (ps : List Nat) : ∀ (x i k : Nat) (h : k < ps.length), climbN x i (ps.take (k + 1)) = if i / 2 ^ k % 2 = 0 then twoN tagMt (climbN x i (ps.take k)) ps[k] else twoN tagMt ps[k] (climbN x i (ps.take k)) := by
  induction ps with
  | nil => intro x i k h; exact absurd h (by simp)
  | cons p ps ih =>
    intro x i k h
    match k with
    | 0 => simp [climbN]
    | k + 1 =>
      rw [List.take_succ_cons, climbN, ih _ _ k (by simpa using h), List.take_succ_cons, climbN]
      simp only [List.getElem_cons_succ]
      rw [show i / 2 / 2 ^ k = i / 2 ^ (k + 1) by rw [Nat.div_div_eq_div_mul, Nat.pow_succ]; congr 1; omega]
theorem xor_even (m : Nat) : 2 * m ^^^ 1 = 2 * m + 1 := by
  apply Nat.eq_of_testBit_eq
  intro j
  cases j with
  | zero => simp
  | succ j =>
    rw [Nat.testBit_succ, Nat.testBit_succ, Nat.xor_div_two, show 2 * m / 2 = m by omega, show (2 * m + 1) / 2 = m by omega]
    simp
theorem xor_odd (m : Nat) : (2 * m + 1) ^^^ 1 = 2 * m + 1 - 1 := by
  rw [← xor_even, Nat.xor_assoc, Nat.xor_self, Nat.xor_zero, xor_even]; rfl
theorem getD_lt (l : List Nat) (i : Nat) (h : i < l.length) : l.getD i 0 = l[i] := by simp [h]
/-- the way of a leaf leads to the root -/
theorem climb_path (n : Nat) : ∀ (l : List Nat) (i : Nat), l.length = 2 ^ n → i < l.length → climbN (l.getD i 0) i (pathF n l i) = rootF n l ∧ (pathF n l i).length = n := by
  induction n with
  | zero =>
    intro l i h hi
    match l, h with
    | [x], _ =>
      obtain rfl : i = 0 := by simpa using hi
      exact ⟨rfl, rfl⟩
  | succ n ih =>
    intro l i h hi
    have hl2 : ¬ l.length ≤ 1 := by have := Nat.two_pow_pos n; rw [Nat.pow_succ] at h; omega
    rw [pathF, if_neg hl2, rootF, if_neg hl2, climbN]
    have hul : (upL l).length = 2 ^ n := by rw [upL_length, h, Nat.pow_succ]; omega
    have hi2 : i / 2 < (upL l).length := by rw [hul]; rw [Nat.pow_succ] at h; omega
    obtain ⟨h1, h2⟩ := ih (upL l) (i / 2) hul hi2
    refine ⟨?_, by rw [List.length_cons, h2]⟩
    rw [← h1]
    congr 1
    have hg := upL_get l (i / 2) hi2
    rw [getD_lt _ _ hi2, hg]
    have hev : l.length % 2 = 0 := by rw [h, Nat.pow_succ]; omega
    by_cases he : i % 2 = 0
    · rw [if_pos he]
      have e1 : i ^^^ 1 = i + 1 := by
        obtain ⟨m, rfl⟩ : ∃ m, i = 2 * m := ⟨i / 2, by omega⟩
        exact xor_even m
      rw [e1, getD_lt _ _ hi, getD_lt _ _ (by omega)]
      congr 1
      · congr 1; omega
      · congr 1; omega
    · rw [if_neg he]
      have e1 : i ^^^ 1 = i - 1 := by
        obtain ⟨m, rfl⟩ : ∃ m, i = 2 * m + 1 := ⟨i / 2, by omega⟩
        exact xor_odd m
      rw [e1, getD_lt _ _ (by omega), getD_lt _ _ hi]
      congr 1
      · congr 1; omega
      · congr 1; omega
end Go.Proofs.Ytlhjkgohojcbpaa
