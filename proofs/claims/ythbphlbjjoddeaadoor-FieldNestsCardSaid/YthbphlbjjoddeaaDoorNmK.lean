/- folkmoot/folkmootlaw1.Ints. -/
import Derived.Test.YthbphlbjjoddeaaDoorApp
import Derived.Test.YthbphlbjjoddeaaDoorProg
namespace Go.Proofs.YthbphlbjjoddeaaDoor
open Go.RowKit
set_option linter.unusedVariables false
set_option maxRecDepth 100000 in
theorem ints_any (A A' : Option Addr) (c c' B B' : Nat) (a b : List Int) (ha : a.length ≤ 1048576) (hb : b.length ≤ 1048576) (w : World) (hr : Rd w B A (i64L a)) (hr' : Rd w B' A' (i64L b)) :
    Calls Tryd.prog 27 #[.slice A a.length c, .slice A' b.length c'] w fun e w' => e = .returned (.bool (decide (a = b))) ∧ ∃ n, w' = w.drewN n := by
  have HR := Lib.hid hr
  have HR' := Lib.hid hr'
  clear hr hr'
  by_cases hlen : a.length = b.length
  · have hli : (a.length : Int) = (b.length : Int) := by omega
    have HLB := Lib.hid hlen
    go_enter Tryd.func27, Tryd.ntmps27
    go_wp2_with fail
    clear hlen hli
    go_loopw [5] (fun iv wr => ∃ (k n : Nat), k ≤ a.length ∧ iv = .int .i64 k ∧ Hid (a.take k = b.take k) ∧ wr = w.drewN n) (fun iv _ => a.length - (intOf iv).toNat)
    case atStart => exact ⟨0, 0, Nat.zero_le _, rfl, Lib.hid (by simp), rfl⟩
    case round =>
      obtain ⟨k, n, hk, rfl, HE, rfl⟩ := hrel
      by_cases hlt : k < a.length
      · have hlt' : k < b.length := by have := HLB.out; omega
        obtain ⟨ad, rfl, hbl, hc⟩ := rd_i64 HR.out k hlt
        obtain ⟨ad', rfl, hbl', hc'⟩ := rd_i64 HR'.out k hlt'
        have hk0 : (0 : Int) ≤ (k : Int) := by omega
        have hk1 : (k : Int) < (a.length : Int) := by omega
        have hk2 : (k : Int) < (b.length : Int) := by omega
        have HT := Lib.hid (List.take_succ_eq_append_getElem hlt)
        have HT' := Lib.hid (List.take_succ_eq_append_getElem hlt')
        have HNE : Hid (a[k] ≠ b[k] → a ≠ b) := Lib.hid (fun h e => h (by subst e; rfl))
        generalize a[k] = z at *
        generalize b[k] = z' at *
        by_cases hzz : z = z'
        · subst hzz
          go_wp2_with fail
          go_quiet (fail)
          go_wp2_with fail
          go_roundw
          case rel => exact ⟨k + 1, n + nq, by omega, by go_num, Lib.hid (by rw [HT.out, HT'.out, HE.out]), rfl⟩
          case measure => simp [intOf]; omega
        · have hz2 : (z == z') = false := by simpa using hzz
          have hz3 : (z != z') = true := by simpa using hzz
          have HAB := Lib.hid (HNE.out hzz)
          go_wp2_with fail
          go_quiet (fail)
          go_wp2_with fail
          go_ret
          exact ⟨by rw [decide_eq_false HAB.out]; rfl, n + nq, by simp [World.drewN, Nat.add_assoc]⟩
      · obtain rfl : k = a.length := by omega
        have hab : a = b := by
          have h := HE.out
          rw [List.take_length, List.take_of_length_le (by have := HLB.out; omega)] at h
          exact h
        have HAB := Lib.hid hab
        clear hab
        go_wp2_with fail
        go_ret
        exact ⟨by rw [decide_eq_true HAB.out]; rfl, n, rfl⟩
  · have hli : ¬ (a.length : Int) = (b.length : Int) := by omega
    have hab : a ≠ b := fun e => hlen (by rw [e])
    have HAB := Lib.hid hab
    clear hab
    go_enter Tryd.func27, Tryd.ntmps27
    go_wp2_with fail
    go_ret
    exact ⟨by rw [decide_eq_false HAB.out]; rfl, 0, rfl⟩
end Go.Proofs.YthbphlbjjoddeaaDoor
