/- short: are fields few, and short. -/
import Derived.Test.YthbphlbjjoddeaaDoorFdH
namespace Go.Proofs.YthbphlbjjoddeaaDoor
open Go.RowKit
set_option linter.unusedVariables false
def shortB (l : List ByteArray) : Bool := decide (l.length ≤ 100) && l.all fun s => decide (s.size ≤ 200)
theorem short_ok (A : Option Addr) (c : Nat) (l : List ByteArray) (w : World) (hr : Rd w w.heap.size A (strL l)) :
    Calls Tryd.prog 15 #[.slice A l.length c] w fun e w' => e = .returned (.bool (shortB l)) ∧ w' = w := by
  by_cases hl : l.length ≤ 100
  · have hli : ¬ (100 : Int) < (l.length : Int) := by omega
    go_enter Tryd.func15, Tryd.ntmps15
    go_wp2_with fail
    go_loop [3] (fun iv => ∃ k : Nat, k ≤ l.length ∧ iv = .int .i64 k ∧ Hid ((l.take k).all (fun s => decide (s.size ≤ 200)) = true)) (fun iv => l.length - (intOf iv).toNat)
    case atStart => exact ⟨0, Nat.zero_le _, rfl, Lib.hid (by simp)⟩
    case round =>
      obtain ⟨k, hk, rfl, HA⟩ := hrel
      by_cases hlt : k < l.length
      · obtain ⟨ad, rfl, hbl, hc0⟩ := rd_str hr k hlt
        have hk0 : (0 : Int) ≤ (k : Int) := by omega
        have hk1 : (k : Int) < (l.length : Int) := by omega
        have HT := Lib.hid (List.take_succ_eq_append_getElem hlt)
        have HM := Lib.hid (List.getElem_mem hlt)
        generalize l[k] = z at *
        by_cases hz : z.size ≤ 200
        · have hzi : ¬ (200 : Int) < (z.size : Int) := by omega
          go_wp2_with fail
          go_round
          case rel => exact ⟨k + 1, by omega, by go_num, Lib.hid (by rw [HT.out, List.all_append, HA.out]; simp [hz])⟩
          case measure => simp [intOf]; omega
        · have hzi : (200 : Int) < (z.size : Int) := by omega
          have HF : Hid (shortB l = false) := Lib.hid (by
            cases hb : shortB l with
            | false => rfl
            | true =>
              simp only [shortB, Bool.and_eq_true, List.all_eq_true, decide_eq_true_eq] at hb
              exact absurd (hb.2 z HM.out) hz)
          go_wp2_with fail
          go_ret
          exact ⟨by rw [HF.out]; rfl, rfl⟩
      · obtain rfl : k = l.length := by omega
        have HF : Hid (shortB l = true) := Lib.hid (by
          have h := HA.out
          rw [List.take_length] at h
          rw [shortB, h, decide_eq_true hl]; rfl)
        go_wp2_with fail
        go_ret
        exact ⟨by rw [HF.out]; rfl, rfl⟩
  · have hli : (100 : Int) < (l.length : Int) := by omega
    have HF : Hid (shortB l = false) := Lib.hid (by rw [shortB, decide_eq_false hl]; rfl)
    go_enter Tryd.func15, Tryd.ntmps15
    go_wp2_with fail
    go_ret
    exact ⟨by rw [HF.out]; rfl, rfl⟩
end Go.Proofs.YthbphlbjjoddeaaDoor
