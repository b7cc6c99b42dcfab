/- Plain mathematics of hexadecimal digits. -/
import Derived.Test.YtpifebpfegjmpaaHashM
namespace Go.Proofs.Ytpifebpfegjmpaa
open Go.RowKit
def hexDig (n : Nat) : UInt8 := if n < 10 then UInt8.ofNat (48 + n) else UInt8.ofNat (87 + n)
def hexL (d : Nat) : List UInt8 := (List.range 16).map fun j => hexDig (d / 16 ^ (15 - j) % 16)
def hexS : ByteArray := ⟨#[48, 49, 50, 51, 52, 53, 54, 55, 56, 57, 97, 98, 99, 100, 101, 102]⟩
theorem and15 (x : Nat) (hx : x < 18446744073709551616) : bits .and .u64 (x : Int) 15 = ((x % 16 : Nat) : Int) := by
  have h := u64_and_nat x 15 hx (by decide)
  simp only [Int.cast_ofNat_Int] at h
  rw [h, show x &&& 15 = x % 16 from Nat.and_two_pow_sub_one_eq_mod x 4]
theorem hexS_at (n : Nat) (h : n < 16) : hexS.data[n]? = some (hexDig n) := by
  have : ∀ n : Fin 16, hexS.data[n.val]? = some (hexDig n.val) := by decide
  exact this ⟨n, h⟩
theorem hexS_get (n : Nat) (hn : n < 16) : ∀ h, (⟨#[48, 49, 50, 51, 52, 53, 54, 55, 56, 57, 97, 98, 99, 100, 101, 102]⟩ : ByteArray)[n]'h = hexDig n := by
  intro h
  have := hexS_at n hn
  unfold hexS at this
  have h2 := (Array.getElem?_eq_some_iff.1 this).2
  exact h2
def rowT (d k : Nat) : Array Value := ((List.range 16).map fun j => if 16 ≤ j + k then Value.int .u8 ((hexDig (d / 16 ^ (15 - j) % 16)).toNat : Int) else .int .u8 0).toArray
theorem rowT_0 (d : Nat) : rowT d 0 = #[.int .u8 0, .int .u8 0, .int .u8 0, .int .u8 0, .int .u8 0, .int .u8 0, .int .u8 0, .int .u8 0, .int .u8 0, .int .u8 0, .int .u8 0, .int .u8 0, .int .u8 0, .int .u8 0, .int .u8 0, .int .u8 0] := by
  rfl
theorem rowT_size (d k : Nat) : (rowT d k).size = 16 := by simp [rowT]
theorem rowT_get (d k i : Nat) (h : i < (rowT d k).size) : (rowT d k)[i] = if 16 ≤ i + k then Value.int .u8 ((hexDig (d / 16 ^ (15 - i) % 16)).toNat : Int) else .int .u8 0 := by
  simp [rowT]
theorem rowT_set (d k : Nat) (h : k < 16) : (rowT d k).setIfInBounds (15 - k) (.int .u8 ((hexDig (d / 16 ^ k % 16)).toNat : Int)) = rowT d (k + 1) := by
  apply Array.ext
  · rw [Array.size_setIfInBounds, rowT_size, rowT_size]
  · intro i h1 h2
    have hi : i < 16 := by rw [rowT_size] at h2; exact h2
    rw [Array.getElem_setIfInBounds, rowT_get, rowT_get]
    by_cases hk : 15 - k = i
    · rw [if_pos hk, if_pos (by omega), show 15 - i = k by omega]
    · rw [if_neg hk]
      by_cases h16 : 16 ≤ i + k
      · rw [if_pos h16, if_pos (by omega)]
      · rw [if_neg h16, if_neg (by omega)]
    · rw [rowT_size]; exact hi
theorem rowT_at (d k : Nat) (h : k < 16) : (rowT d k)[15 - k]? = some (.int .u8 0) := by
  rw [Array.getElem?_eq_getElem (by rw [rowT_size]; omega), rowT_get, if_neg (by omega)]
theorem hexStep (d k q : Nat) (h : q = d / 16 ^ k) : q / 16 = d / 16 ^ (k + 1) := by
  subst h
  rw [Nat.div_div_eq_div_mul, Nat.pow_succ]
theorem rowT_16 (d : Nat) : rowT d 16 = ((hexL d).map fun c => Value.int .u8 (c.toNat : Int)).toArray := by
  simp [rowT, hexL]
theorem shr_hex (d k : Nat) (h : k < 16) : ∃ q : Nat, q = d / 16 ^ (15 - k) ∧ ((d : Int) / 2 ^ (60 - 4 * k)) = (q : Int) := by
  refine ⟨_, rfl, ?_⟩
  have : 16 ^ (15 - k) = 2 ^ (60 - 4 * k) := by
    rw [show (16 : Nat) = 2 ^ 4 from rfl, ← Nat.pow_mul]
    congr 1
    omega
  rw [this]
  simp
theorem hexL_length (d : Nat) : (hexL d).length = 16 := by simp [hexL]
theorem hexL_at (d k : Nat) (h : k < 16) : (hexL d).take (k + 1) = (hexL d).take k ++ [hexDig (d / 16 ^ (15 - k) % 16)] := by
  rw [List.take_succ_eq_append_getElem (by rw [hexL_length]; exact h)]
  simp [hexL]

def hexVal (c : UInt8) : Option Nat :=
  if 48 ≤ c.toNat ∧ c.toNat ≤ 57 then some (c.toNat - 48) else if 97 ≤ c.toNat ∧ c.toNat ≤ 102 then some (c.toNat - 87) else none
theorem hexVal_dec (c : UInt8) (h : 48 ≤ c.toNat ∧ c.toNat ≤ 57) : hexVal c = some (c.toNat - 48) := if_pos h
theorem hexVal_low (c : UInt8) (h : 97 ≤ c.toNat ∧ c.toNat ≤ 102) : hexVal c = some (c.toNat - 87) := by
  unfold hexVal
  rw [if_neg (by omega), if_pos h]
theorem hexVal_no (c : UInt8) (h : ¬ (48 ≤ c.toNat ∧ c.toNat ≤ 57)) (h' : ¬ (97 ≤ c.toNat ∧ c.toNat ≤ 102)) : hexVal c = none := by
  unfold hexVal
  rw [if_neg h, if_neg h']
theorem hexVal_lt (c : UInt8) (n : Nat) (h : hexVal c = some n) : n < 16 := by
  unfold hexVal at h
  split at h
  · injection h with h; omega
  · split at h
    · injection h with h; omega
    · cases h
def hexStepO (a : Option Nat) (c : UInt8) : Option Nat := a.bind fun d => (hexVal c).map fun n => d * 16 + n
/-- the number that hexadecimal digits say, if they are such -/
def hexN (l : List UInt8) : Option Nat := l.foldl hexStepO (some 0)
theorem hexN_nil : hexN [] = some 0 := rfl
theorem hexN_snoc (l : List UInt8) (c : UInt8) : hexN (l ++ [c]) = hexStepO (hexN l) c := foldl_snoc _ _ _ _
theorem hexN_none (l r : List UInt8) (h : hexN l = none) : hexN (l ++ r) = none := by
  unfold hexN at *
  rw [List.foldl_append, h]
  induction r with
  | nil => rfl
  | cons c r ih => exact ih
theorem foldHex_none (l : List UInt8) : l.foldl hexStepO none = none := by
  induction l with
  | nil => rfl
  | cons c l ih => exact ih
theorem foldHex_lt : ∀ (l : List UInt8) (d k n : Nat), d < 16 ^ k → l.foldl hexStepO (some d) = some n → n < 16 ^ (k + l.length)
  | [], d, k, n, hd, h => by
    injection h with h
    subst h
    simpa using hd
  | c :: l, d, k, n, hd, h => by
    rw [List.foldl_cons] at h
    cases hc : hexVal c with
    | none =>
      have : hexStepO (some d) c = none := by simp [hexStepO, hc]
      rw [this, foldHex_none] at h
      cases h
    | some m =>
      have e : hexStepO (some d) c = some (d * 16 + m) := by simp [hexStepO, hc]
      rw [e] at h
      have hm := hexVal_lt c m hc
      have := foldHex_lt l (d * 16 + m) (k + 1) n (by rw [Nat.pow_succ]; omega) h
      rw [List.length_cons, show k + (l.length + 1) = k + 1 + l.length by omega]
      exact this
theorem hexN_lt (l : List UInt8) (n : Nat) (h : hexN l = some n) : n < 16 ^ l.length := by
  have := foldHex_lt l 0 0 n (by decide) h
  simpa using this
theorem hexN_lt15 (l : List UInt8) (n : Nat) (hl : l.length ≤ 15) (h : hexN l = some n) : n < 1152921504606846976 := by
  have h1 := hexN_lt l n h
  have h2 : 16 ^ l.length ≤ 16 ^ 15 := Nat.pow_le_pow_right (by decide) hl
  have h3 : (16 : Nat) ^ 15 = 1152921504606846976 := by decide
  omega
/-- what a step of the program leaves: d<<4 | n -/
theorem shl_or (d n : Nat) (hd : d < 1152921504606846976) (hn : n < 16) : bits .or .u64 ((d : Int) * 16) (n : Int) = ((d * 16 + n : Nat) : Int) := by
  have h := u64_or_nat (d * 16) n (by omega) (by omega)
  rw [nat_join 4 (d * 16) n (by omega) (by simpa using hn)] at h
  simpa using h
/-- what Parse tells: a digest of 16 digits, or ErrForm -/
def parseO (l : List UInt8) : Option Nat := if l.length = 16 then hexN l else none
def parseRes (o : Option Nat) : Value := match o with
  | some d => .tuple #[.int .u64 d, .int .i64 0]
  | none => .tuple #[.int .u64 0, .int .i64 2]
theorem parseRes_some (d : Nat) : parseRes (some d) = .tuple #[.int .u64 d, .int .i64 0] := rfl
theorem parseRes_none : parseRes none = .tuple #[.int .u64 0, .int .i64 2] := rfl
theorem ret_res {o o' : Option Nat} {v : Value} (h : o = o') (hv : v = parseRes o') : Ending.returned v = .returned (parseRes o) := by rw [h, hv]
theorem u64_dig (d n : Nat) : Value.int .u64 ((d : Int) * 16 + (n : Int)) = .int .u64 ((d * 16 + n : Nat) : Int) := by simp
theorem hexVal_dig (n : Nat) (h : n < 16) : hexVal (hexDig n) = some n := by
  have : ∀ n : Fin 16, hexVal (hexDig n.val) = some n.val := by decide
  exact this ⟨n, h⟩
/-- digits written are digits read -/
theorem hexN_take (d k : Nat) (h : k ≤ 16) (hd : d < 18446744073709551616) : hexN ((hexL d).take k) = some (d / 16 ^ (16 - k)) := by
  induction k with
  | zero =>
    have : d / 16 ^ 16 = 0 := Nat.div_eq_of_lt (by have : (16 : Nat) ^ 16 = 18446744073709551616 := by decide
                                                   omega)
    simp only [List.take_zero, hexN_nil, Nat.sub_zero, this]
  | succ k ih =>
    rw [hexL_at d k (by omega), hexN_snoc, ih (by omega)]
    simp only [hexStepO, Option.bind_some, hexVal_dig _ (Nat.mod_lt (d / 16 ^ (15 - k)) (show 0 < 16 by decide)), Option.map_some]
    congr 1
    rw [show 16 - k = (15 - k) + 1 by omega, show 16 - (k + 1) = 15 - k by omega, Nat.pow_succ, ← Nat.div_div_eq_div_mul]
    omega
theorem hexN_hexL (d : Nat) (hd : d < 18446744073709551616) : hexN (hexL d) = some d := by
  have h := hexN_take d 16 (Nat.le_refl _) hd
  rw [List.take_of_length_le (by rw [hexL_length]; exact Nat.le_refl _)] at h
  simpa using h
theorem parseO_hexL (d : Nat) (hd : d < 18446744073709551616) : parseO (hexL d) = some d := by
  unfold parseO
  rw [if_pos (hexL_length d)]
  exact hexN_hexL d hd
theorem hexDig_val (c : UInt8) (n : Nat) (h : hexVal c = some n) : hexDig n = c := by
  have : ∀ c : Fin 256, ∀ n : Fin 16, hexVal (UInt8.ofNat c.val) = some n.val → hexDig n.val = UInt8.ofNat c.val := by decide +kernel
  have hc : UInt8.ofNat c.toNat = c := by simp
  have := this ⟨c.toNat, c.toNat_lt⟩ ⟨n, hexVal_lt c n h⟩ (by rw [hc]; exact h)
  rw [hc] at this
  exact this
/-- what is read as a digest is written so -/
theorem hexL_of_take (l : List UInt8) (d : Nat) (hl : l.length = 16) (h : hexN l = some d) : ∀ k, k ≤ 16 → hexN (l.take k) = some (d / 16 ^ (16 - k)) := by
  intro k hk
  induction hj : 16 - k generalizing k with
  | zero =>
    have : k = 16 := by omega
    subst this
    rw [List.take_of_length_le (by omega), h]
    simp
  | succ j ih =>
    have h1 := ih (k + 1) (by omega) (by omega)
    have hk' : k < l.length := by omega
    rw [List.take_succ_eq_append_getElem hk', hexN_snoc] at h1
    unfold hexStepO at h1
    cases hx : hexN (l.take k) with
    | none => rw [hx] at h1; cases h1
    | some e =>
      rw [hx] at h1
      cases hc : hexVal l[k] with
      | none => simp [hc] at h1
      | some n =>
        simp [hc] at h1
        have hn := hexVal_lt _ _ hc
        rw [Nat.pow_succ, ← Nat.div_div_eq_div_mul, ← h1]
        congr 1
        omega
theorem hexL_hexN (l : List UInt8) (d : Nat) (hl : l.length = 16) (h : hexN l = some d) : hexL d = l := by
  have key := hexL_of_take l d hl h
  apply List.ext_getElem
  · rw [hexL_length, hl]
  · intro k h1 h2
    have hk : k < 16 := by rw [hexL_length] at h1; exact h1
    have e1 := key k (by omega)
    have e2 := key (k + 1) (by omega)
    rw [List.take_succ_eq_append_getElem h2, hexN_snoc, e1] at e2
    unfold hexStepO at e2
    cases hc : hexVal l[k] with
    | none => simp [hc] at e2
    | some n =>
      simp [hc] at e2
      have hn := hexVal_lt _ _ hc
      rw [← hexDig_val _ _ hc]
      simp only [hexL, List.getElem_map, List.getElem_range]
      congr 1
      have e3 : d / 16 ^ (16 - k) * 16 + n = d / 16 ^ (15 - k) := by simpa using e2
      rw [← e3]
      omega
end Go.Proofs.Ytpifebpfegjmpaa
