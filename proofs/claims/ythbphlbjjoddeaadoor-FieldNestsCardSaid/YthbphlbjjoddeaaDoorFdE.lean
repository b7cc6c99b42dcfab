/- field.count. -/
import Derived.Test.YthbphlbjjoddeaaDoorFdD
namespace Go.Proofs.YthbphlbjjoddeaaDoor
open Go.RowKit
set_option linter.unusedVariables false
theorem get_list (s : ByteArray) (k : Nat) (h : k < s.size) (h' : k < s.data.toList.length) : s.data.toList[k] = s[k] := rfl
set_option maxRecDepth 100000 in
set_option maxHeartbeats 1000000 in
theorem count_ok (s : ByteArray) (hs : s.size ≤ 100000000) (w : World) :
    Calls Tryd.prog 48 #[.string s] w fun e w' => e = .returned (cntRes (splitF s.data.toList)) ∧ w' = w := by
  by_cases h0 : s.size = 0
  · obtain rfl : s = ⟨#[]⟩ := by
      cases s with
      | mk d => congr 1; exact Array.eq_empty_of_size_eq_zero h0
    go_enter Tryd.func48, Tryd.ntmps48
    go_wp2_with fail
    go_loop [4, 5] (fun nv iv => nv = .int .i64 0 ∧ iv = .int .i64 0) (fun _ _ => 0)
    case atStart => exact ⟨rfl, rfl⟩
    case round =>
      obtain ⟨rfl, rfl⟩ := hrel
      go_wp2_with fail
      go_ret2
      exact ⟨rfl, rfl⟩
  · have hie : s.toList.isEmpty = false := by
      rw [ByteArray.toList_eq]
      cases hl : s.data.toList with
      | nil => exact absurd (by have h3 := congrArg List.length hl; simpa using h3) h0
      | cons _ _ => rfl
    have hie2 : ¬ s.toList = [] := fun e => by rw [e] at hie; simp at hie
    have hp : 0 < s.size := by omega
    have hp1 : (0 : Int) < (s.size : Int) := by omega
    by_cases hb : (s[0].toNat : Int) = 124
    · go_enter Tryd.func48, Tryd.ntmps48
      go_wp2_with fail
      have hsl : s.data.toList.length = s.size := by simp
      have HSL := Lib.hid hsl
      clear hsl
      go_loop [4, 5] (fun nv iv => ∃ k n : Nat, k ≤ s.size ∧ n ≤ k ∧ iv = .int .i64 k ∧ nv = .int .i64 n ∧ Hid (CntP s.data.toList k n) ∧ Hid (k = 0 → n = 0)) (fun _ iv => s.size - (intOf iv).toNat)
      case atStart => exact ⟨0, 0, Nat.zero_le _, Nat.le_refl _, rfl, rfl, Lib.hid (.inl ⟨rfl, rfl⟩), Lib.hid (fun _ => rfl)⟩
      case round =>
        obtain ⟨k, n, hk, hnk, rfl, rfl, HP, HZ⟩ := hrel
        by_cases hlt : k < s.size
        · have hk0 : (0 : Int) ≤ (k : Int) := by omega
          have hk1 : (k : Int) < (s.size : Int) := by omega
          have e1 : IntKind.i64.wrap ((k : Int) + 1) = ((k + 1 : Nat) : Int) := by rw [IntWalk.i64_in _ (by omega)]; omega
          have e2 : IntKind.i64.wrap ((n : Int) + 1) = ((n + 1 : Nat) : Int) := by rw [IntWalk.i64_in _ (by omega)]; omega
          have HLT := Lib.hid (show k < s.data.toList.length by rw [HSL.out]; exact hlt)
          have hone : (s[k]'hlt).toNat ≠ 124 → 1 ≤ k := fun h => by
            rcases Nat.eq_zero_or_pos k with h3 | h3
            · subst h3; exact absurd (by omega) h
            · exact h3
          have HONE := Lib.hid hone
          clear hone
          by_cases ha : ((s[k]'hlt).toNat : Int) = 124
          · have HN := Lib.hid (cntP_bar HP.out HLT.out (by rw [get_list s k hlt HLT.out]; exact u8_eq _ 124 (by omega) ha))
            have HK1 := Lib.hid hk1
            go_wp2_with fail
            go_round
            case rel => exact ⟨k + 1, n + 1, by have := HK1.out; omega, by omega, by go_num, by go_num, HN, Lib.hid (fun h => by omega)⟩
            case measure => have h9 := HK1.out; simp [intOf]; omega
          · have h1k : 1 ≤ k := HONE.out (fun h => ha (by omega))
            have hda : (((s[k]'hlt).toNat : Int) == 124) = false := by simpa using ha
            have hdb : decide (((s[k]'hlt).toNat : Int) = 124) = false := decide_eq_false ha
            by_cases hbs : ((s[k]'hlt).toNat : Int) = 92
            · have hc92 : s.data.toList[k]'HLT.out = 92 := by rw [get_list s k hlt HLT.out]; exact u8_eq _ 92 (by omega) hbs
              have HC := Lib.hid hc92
              clear hc92
              by_cases hend : k + 1 = s.size
              · have H1 := Lib.hid (cntP_cut HP.out h1k (by rw [HSL.out]; exact hend) HC.out)
                have he1 : ((k + 1 : Nat) : Int) = (s.size : Int) := by omega
                rw [he1] at e1
                clear he1
                go_wp2_with fail
                go_ret2
                exact ⟨by rw [H1.out]; rfl, rfl⟩
              · have hlt2 : k + 1 < s.size := by omega
                obtain ⟨m, hm⟩ : ∃ m, k + 1 = m := ⟨_, rfl⟩
                rw [hm] at e1 hend hlt2
                have hm0 : (0 : Int) ≤ (m : Int) := by omega
                have hm1 : (m : Int) < (s.size : Int) := by omega
                have hm2 : ¬ (m : Int) = (s.size : Int) := by omega
                have HM := Lib.hid hm
                have HLM := Lib.hid (show m < s.data.toList.length by rw [HSL.out]; exact hlt2)
                have e3 : IntKind.i64.wrap ((m : Int) + 1) = ((m + 1 : Nat) : Int) := by rw [IntWalk.i64_in _ (by omega)]; omega
                by_cases hsp : spec (s[m]'hlt2) = true
                · have cS := fun W => special_ok (s[m]'hlt2) W
                  simp only [hsp] at cS
                  have CS := Lib.hid cS
                  have HN : Hid (CntP s.data.toList (m + 1) n) := Lib.hid (by
                    subst hm
                    exact cntP_esc HP.out h1k (by rw [HSL.out]; exact hlt2) HC.out (by rw [get_list s (k + 1) hlt2]; exact hsp))
                  have HK1 := Lib.hid hm1
                  have HNK := Lib.hid (show n ≤ m + 1 by omega)
                  clear cS hsp hm
                  go_wp2_with (first | (go_at_call 47; refine (CS.out _).mono ?_; rintro e w' ⟨rfl, rfl⟩))
                  go_round
                  case rel => exact ⟨m + 1, n, by have := HK1.out; omega, HNK.out, by go_num, rfl, HN, Lib.hid (fun h => by omega)⟩
                  case measure => have h9 := HK1.out; have h8 := HM.out; simp [intOf]; omega
                · have hspf : spec (s[m]'hlt2) = false := by simpa using hsp
                  have cS := fun W => special_ok (s[m]'hlt2) W
                  simp only [hspf] at cS
                  have CS := Lib.hid cS
                  have H1 : Hid (splitF s.data.toList = none) := Lib.hid (by
                    subst hm
                    exact cntP_bad HP.out h1k (by rw [HSL.out]; exact hlt2) HC.out (by rw [get_list s (k + 1) hlt2]; exact hspf))
                  clear cS hsp hspf hm
                  go_wp2_with (first | (go_at_call 47; refine (CS.out _).mono ?_; rintro e w' ⟨rfl, rfl⟩))
                  go_ret2
                  exact ⟨by rw [H1.out]; rfl, rfl⟩
            · have hdc : (((s[k]'hlt).toNat : Int) == 92) = false := by simpa using hbs
              have hdd : decide (((s[k]'hlt).toNat : Int) = 92) = false := decide_eq_false hbs
              have HN := Lib.hid (cntP_oth HP.out h1k HLT.out (by rw [get_list s k hlt HLT.out]; intro h; exact ha (by rw [h]; rfl)) (by rw [get_list s k hlt HLT.out]; intro h; exact hbs (by rw [h]; rfl)))
              have HK1 := Lib.hid hk1
              go_wp2_with fail
              go_round
              case rel => exact ⟨k + 1, n, by have := HK1.out; omega, by omega, by go_num, rfl, HN, Lib.hid (fun h => by omega)⟩
              case measure => have h9 := HK1.out; simp [intOf]; omega
        · obtain rfl : k = s.size := by omega
          have hend : ∃ l, splitF s.data.toList = some l ∧ n = l.length := cntP_end (by rw [HSL.out]; exact HP.out)
          obtain ⟨l, h1, rfl⟩ := hend
          have H1 := Lib.hid h1
          clear h1
          go_wp2_with fail
          go_ret2
          exact ⟨by rw [H1.out]; rfl, rfl⟩
    · have hd : ((s[0].toNat : Int) == 124) = false := by simpa using hb
      have hno : splitF s.data.toList = none := by
        have hl : 0 < s.data.toList.length := by simpa using hp
        cases hq : s.data.toList with
        | nil => rw [hq] at hl; simp at hl
        | cons c S =>
          have hc : c = s[0] := by
            have h3 := get_list s 0 hp hl
            simp only [hq] at h3
            exact h3
          rw [splitF, if_neg (fun h => hb (by rw [← hc, h]; rfl))]
      rw [hno]
      clear hno
      go_enter Tryd.func48, Tryd.ntmps48
      go_wp2_with fail
      go_ret2
      exact ⟨rfl, rfl⟩
end Go.Proofs.YthbphlbjjoddeaaDoor
