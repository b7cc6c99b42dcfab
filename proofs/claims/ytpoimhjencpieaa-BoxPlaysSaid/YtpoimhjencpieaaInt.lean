/- Ints on rows that are alike. -/
import Derived.Test.YtpoimhjencpieaaApp
import Derived.Test.YtpoimhjencpieaaProg
namespace Go.Proofs.Ytpoimhjencpieaa
open Go.RowKit
set_option linter.unusedVariables false
set_option maxRecDepth 100000 in
theorem ints_same (A A' : Option Addr) (c c' B B' : Nat) (l : List Int) (hl : l.length ≤ 1048576) (w : World) (hr : Rd w B A (i64L l)) (hr' : Rd w B' A' (i64L l)) :
    Calls Try.prog 18 #[.slice A l.length c, .slice A' l.length c'] w fun e w' => e = .returned (.bool true) ∧ ∃ n, w' = w.drewN n := by
  have HR := Lib.hid hr
  have HR' := Lib.hid hr'
  clear hr hr'
  go_enter Try.func18, Try.ntmps18
  go_wp2_with fail
  go_loopw [5] (fun iv wr => ∃ (k n : Nat), k ≤ l.length ∧ iv = .int .i64 k ∧ wr = w.drewN n) (fun iv _ => l.length - (intOf iv).toNat)
  case atStart => exact ⟨0, 0, Nat.zero_le _, rfl, rfl⟩
  case round =>
    obtain ⟨k, n, hk, rfl, rfl⟩ := hrel
    by_cases hlt : k < l.length
    · obtain ⟨ad, rfl, hbl, hc⟩ := rd_i64 HR.out k hlt
      obtain ⟨ad', rfl, hbl', hc'⟩ := rd_i64 HR'.out k hlt
      have hk0 : (0 : Int) ≤ (k : Int) := by omega
      have hk1 : (k : Int) < (l.length : Int) := by omega
      generalize l[k] = z at *
      go_wp2_with fail
      go_quiet (fail)
      go_wp2_with fail
      go_roundw
      case rel => exact ⟨k + 1, n + nq, by omega, by go_num, rfl⟩
      case measure => simp [intOf]; omega
    · obtain rfl : k = l.length := by omega
      go_wp2_with fail
      go_ret
      exact ⟨rfl, _, rfl⟩
/-- the lengths as the call spells them -/
theorem ints_same2 (A A' : Option Addr) (c c' B B' n n' : Nat) (l : List Int) (hn : l.length = n) (hn' : l.length = n') (hl : l.length ≤ 1048576) (w : World) (hr : Rd w B A (i64L l)) (hr' : Rd w B' A' (i64L l)) :
    Calls Try.prog 18 #[.slice A n c, .slice A' n' c'] w fun e w' => e = .returned (.bool true) ∧ ∃ n, w' = w.drewN n := by
  subst hn; subst hn'
  exact ints_same A A' c c' B B' l hl w hr hr'
theorem grew_drewN' {a b : World} (h : Grew a b) (n : Nat) : Grew a (b.drewN n) := ⟨h.os, h.tape, h.output, h.size, h.block⟩
theorem grew_alloc' {a b : World} (h : Grew a b) (o : Obj) : Grew a (b.alloc o) := h.alloc h.size o
end Go.Proofs.Ytpoimhjencpieaa
