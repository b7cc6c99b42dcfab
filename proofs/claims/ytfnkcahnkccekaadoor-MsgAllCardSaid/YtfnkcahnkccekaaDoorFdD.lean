/- field.count: how many fields a text has, or that it has none. -/
import Derived.Test.YtfnkcahnkccekaaDoorFdC
namespace Go.Proofs.YtfnkcahnkccekaaDoor
open Go.RowKit
set_option linter.unusedVariables false
def cntRes : Option (List (List UInt8)) → Value
  | none => .tuple #[.int .i64 0, .int .i64 2]
  | some l => .tuple #[.int .i64 (l.length : Int), .int .i64 0]
/-- what count knows when k bytes are behind it -/
def CntP (S : List UInt8) (k n : Nat) : Prop := (k = 0 ∧ n = 0) ∨ ∃ cur done, splitF S = parse (S.drop k) false cur done ∧ n = done.length + 1
theorem cntP_bar {S : List UInt8} {k n : Nat} (h : CntP S k n) (hk : k < S.length) (hc : S[k] = 124) : CntP S (k + 1) (n + 1) := by
  rcases h with ⟨rfl, rfl⟩ | ⟨cur, done, h1, rfl⟩
  · refine .inr ⟨[], [], ?_, rfl⟩
    cases S with
    | nil => simp at hk
    | cons c S => simp at hc; subst hc; rw [splitF, if_pos rfl]; rfl
  · refine .inr ⟨[], done ++ [cur], ?_, by simp⟩
    rw [h1, List.drop_eq_getElem_cons hk, hc, parse_bar]
theorem cntP_oth {S : List UInt8} {k n : Nat} (h : CntP S k n) (h0 : 1 ≤ k) (hk : k < S.length) (h1 : S[k] ≠ 124) (h2 : S[k] ≠ 92) : CntP S (k + 1) n := by
  rcases h with ⟨rfl, _⟩ | ⟨cur, done, he, rfl⟩
  · omega
  · exact .inr ⟨cur ++ [S[k]], done, by rw [he, List.drop_eq_getElem_cons hk, parse_other _ _ _ _ h1 h2], rfl⟩
theorem cntP_esc {S : List UInt8} {k n : Nat} (h : CntP S k n) (h0 : 1 ≤ k) (hk : k + 1 < S.length) (h1 : S[k] = 92) (h2 : spec S[k + 1] = true) : CntP S (k + 2) n := by
  rcases h with ⟨rfl, _⟩ | ⟨cur, done, he, rfl⟩
  · omega
  · exact .inr ⟨cur ++ [S[k + 1]], done, by rw [he, List.drop_eq_getElem_cons (by omega : k < S.length), List.drop_eq_getElem_cons hk, h1, parse_esc2 _ _ _ _ h2], rfl⟩
theorem cntP_bad {S : List UInt8} {k n : Nat} (h : CntP S k n) (h0 : 1 ≤ k) (hk : k + 1 < S.length) (h1 : S[k] = 92) (h2 : spec S[k + 1] = false) : splitF S = none := by
  rcases h with ⟨rfl, _⟩ | ⟨cur, done, he, rfl⟩
  · omega
  · rw [he, List.drop_eq_getElem_cons (by omega : k < S.length), List.drop_eq_getElem_cons hk, h1, parse_esc_bad _ _ _ _ h2]
theorem cntP_cut {S : List UInt8} {k n : Nat} (h : CntP S k n) (h0 : 1 ≤ k) (hk : k + 1 = S.length) (h1 : S[k] = 92) : splitF S = none := by
  rcases h with ⟨rfl, _⟩ | ⟨cur, done, he, rfl⟩
  · omega
  · rw [he, List.drop_eq_getElem_cons (by omega : k < S.length), h1, List.drop_eq_nil_of_le (by omega), parse_esc_end]
theorem cntP_end {S : List UInt8} {n : Nat} (h : CntP S S.length n) : ∃ l, splitF S = some l ∧ n = l.length := by
  rcases h with ⟨h0, rfl⟩ | ⟨cur, done, he, rfl⟩
  · exact ⟨[], by rw [List.eq_nil_of_length_eq_zero h0]; rfl, rfl⟩
  · exact ⟨done ++ [cur], by rw [he, List.drop_length, parse_nil], by simp⟩
theorem u8_eq (c : UInt8) (n : Nat) (hn : n < 256) (h : (c.toNat : Int) = (n : Int)) : c = UInt8.ofNat n := UInt8.toNat_inj.1 (by rw [UInt8.toNat_ofNat']; omega)
end Go.Proofs.YtfnkcahnkccekaaDoor
