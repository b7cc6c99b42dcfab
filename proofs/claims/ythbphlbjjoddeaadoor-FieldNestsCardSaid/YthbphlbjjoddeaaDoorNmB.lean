/- isNum. -/
import Derived.Test.YthbphlbjjoddeaaDoorNmA
import Derived.Test.YthbphlbjjoddeaaDoorFdK
namespace Go.Proofs.YthbphlbjjoddeaaDoor
open Go.RowKit
set_option linter.unusedVariables false
theorem trim_body (l : List UInt8) : Lib.trimPrefix l [45] = body l := by
  unfold Lib.trimPrefix body minus
  cases l with
  | nil => rfl
  | cons a t =>
    by_cases h : a = 45
    · subst h; simp [Lib.hasPrefix]
    · simp [Lib.hasPrefix, h, Ne.symm h]
theorem isNumB_alt {l : List UInt8} (h : l ≠ [48]) : isNumB l = (decide (body l ≠ []) && decide ((body l).head? ≠ some 48) && (body l).all dig) := by
  unfold isNumB isDec
  by_cases hb : body l = [48]
  · have hm : minus l = true := by
      cases hm : minus l with
      | true => rfl
      | false => exact absurd (by unfold body at hb; rw [hm] at hb; exact hb) h
    rw [hb, hm]; rfl
  · simp [hb]
theorem ba_eq_iff (s : ByteArray) (l : List UInt8) : (s = ⟨l.toArray⟩) ↔ s.data.toList = l := by
  constructor
  · rintro rfl; simp
  · intro h; apply ByteArray.ext; rw [← h]
theorem ba_empty {s : ByteArray} (h : s.size = 0) : s = ⟨#[]⟩ := by
  cases s with
  | mk d => congr 1; exact Array.eq_empty_of_size_eq_zero h
theorem ba_some {s : ByteArray} (h : 0 < s.size) : s.toList.isEmpty = false := by
  rw [ByteArray.toList_eq]
  cases hl : s.data.toList with
  | nil => exact absurd (by have h3 := congrArg List.length hl; simpa using h3) (show s.size ≠ 0 by omega)
  | cons _ _ => rfl
theorem ba_some' {s : ByteArray} (h : 0 < s.size) : ¬ s.toList = [] := fun e => by
  have := ba_some h
  rw [e] at this; simp at this
theorem ba_len (s : ByteArray) : s.data.toList.length = s.size := by simp
theorem ba_head {s : ByteArray} (h : 0 < s.size) : s.data.toList.head? = some s[0] := by
  rw [List.head?_eq_getElem?, List.getElem?_eq_getElem (by rw [ba_len]; exact h)]; rfl
theorem all_take {p : UInt8 → Bool} (s : ByteArray) (k : Nat) (h : k < s.size) (h1 : (s.data.toList.take k).all p = true) (h2 : p s[k] = true) : (s.data.toList.take (k + 1)).all p = true := by
  rw [take_byte s k h, List.all_append, h1]; simp [h2]
theorem all_not {p : UInt8 → Bool} (s : ByteArray) (k : Nat) (h : k < s.size) (h2 : p s[k] = false) : s.data.toList.all p = false := by
  rw [List.all_eq_false]
  exact ⟨s[k], by
    have hk : k < s.data.toList.length := by rw [ba_len]; exact h
    have := List.getElem_mem hk
    exact this, by simp [h2]⟩
theorem dig_int {c : UInt8} : dig c = true ↔ (48 ≤ (c.toNat : Int) ∧ (c.toNat : Int) ≤ 57) := by
  unfold dig; simp; omega
set_option maxRecDepth 100000 in
set_option maxHeartbeats 1000000 in
theorem isnum_ok (s : ByteArray) (hs : s.size ≤ 9223372036854775807) (w : World) : Calls Tryd.prog 55 #[.string s] w fun e w' => e = .returned (.bool (isNumB s.data.toList)) ∧ w' = w := by
  by_cases h0 : s.data.toList = [48]
  · obtain rfl := (ba_eq_iff s [48]).2 h0
    rw [show isNumB ((⟨[48].toArray⟩ : ByteArray).data.toList) = true from rfl]
    go_enter Tryd.func55, Tryd.ntmps55
    go_wp2_with fail
    go_ret
    exact ⟨rfl, rfl⟩
  · rw [isNumB_alt h0]
    have h1 : (s.toList == [48]) = false := by rw [ByteArray.toList_eq]; simpa using h0
    have h2 : (!s.toList == [48]) = true := by rw [h1]; rfl
    have cT := Tryd.strings_TrimPrefix s ⟨#[45]⟩ w
    rw [show (⟨#[45]⟩ : ByteArray).data.toList = [45] from rfl, trim_body] at cT
    have htl : (body s.data.toList).length ≤ s.size := by
      unfold body
      have : s.data.toList.length = s.size := by simp
      split
      · rw [List.length_tail]; omega
      · omega
    obtain ⟨t, ht⟩ : ∃ t : ByteArray, t = ⟨(body s.data.toList).toArray⟩ := ⟨_, rfl⟩
    have ht2 : t.data.toList = body s.data.toList := by rw [ht]
    rw [← ht2] at htl ⊢
    rw [← ht] at cT
    rw [ba_len] at htl
    have CT := Lib.hid cT
    clear cT h0 ht ht2
    by_cases hz : t.size = 0
    · obtain rfl := ba_empty hz
      go_enter Tryd.func55, Tryd.ntmps55
      go_wp2_with (first | (go_at_call 67; refine (CT.out).mono ?_; rintro e w' ⟨rfl, rfl⟩))
      go_ret
      exact ⟨rfl, rfl⟩
    · have hp : 0 < t.size := by omega
      have hp1 : (0 : Int) < (t.size : Int) := by omega
      have hie := ba_some hp
      have hie2 := ba_some' hp
      have hH := Lib.hid (ba_head hp)
      have hN : Hid (t.data.toList ≠ []) := Lib.hid (fun e => by have := ba_len t; rw [e] at this; simp at this; omega)
      by_cases hc : (t[0].toNat : Int) = 48
      · go_enter Tryd.func55, Tryd.ntmps55
        go_wp2_with (first | (go_at_call 67; refine (CT.out).mono ?_; rintro e w' ⟨rfl, rfl⟩))
        go_ret
        refine ⟨ret_bool ?_, rfl⟩
        rw [hH.out, u8_eq _ 48 (by omega) hc]
        simp
      · have hcb : ((t[0].toNat : Int) == 48) = false := by simpa using hc
        have hcd : decide ((t[0].toNat : Int) = 48) = false := by simpa using hc
        have hR : Hid ((decide (t.data.toList ≠ []) && decide (t.data.toList.head? ≠ some 48) && t.data.toList.all dig) = t.data.toList.all dig) := Lib.hid (by
          rw [decide_eq_true hN.out, decide_eq_true (by
            rw [hH.out]; intro e; injection e with e; rw [e] at hc; exact hc rfl)]; rfl)
        rw [hR.out]
        obtain ⟨r, hr⟩ : ∃ r, t.data.toList.all dig = r := ⟨_, rfl⟩
        rw [hr]
        have HR := Lib.hid hr
        clear hr
        go_enter Tryd.func55, Tryd.ntmps55
        go_wp2_with (first | (go_at_call 67; refine (CT.out).mono ?_; rintro e w' ⟨rfl, rfl⟩))
        go_loop [3, 17] (fun v iv => ∃ k : Nat, k ≤ t.size ∧ iv = .int .i64 k ∧ Hid ((t.data.toList.take k).all dig = true)) (fun _ iv => t.size - (intOf iv).toNat)
        case atStart => exact ⟨0, Nat.zero_le _, rfl, Lib.hid rfl⟩
        case round =>
          obtain ⟨k, hk, rfl, HA⟩ := hrel
          by_cases hlt : k < t.size
          · have hk0 : (0 : Int) ≤ (k : Int) := by omega
            have hk1 : (k : Int) < (t.size : Int) := by omega
            have e1 : IntKind.i64.wrap ((k : Int) + 1) = ((k + 1 : Nat) : Int) := by rw [IntWalk.i64_in _ (by omega)]; omega
            have HK := Lib.hid hlt
            by_cases hd : dig (t[k]'hlt) = true
            · obtain ⟨hd1, hd2⟩ := dig_int.1 hd
              have HN := Lib.hid (all_take t k hlt HA.out hd)
              clear hd
              go_wp2_with fail
              go_round
              case rel => exact ⟨k + 1, by have := HK.out; omega, by go_num, HN⟩
              case measure => have h9 := HK.out; simp [intOf]; omega
            · have hdf : dig (t[k]'hlt) = false := by simpa using hd
              have HN := Lib.hid (all_not t k hlt hdf)
              by_cases hd1 : ((t[k]'hlt).toNat : Int) < 48
              · clear hd hdf
                go_wp2_with fail
                go_ret
                exact ⟨ret_bool (HN.out.symm.trans HR.out), rfl⟩
              · have hd2 : (57 : Int) < ((t[k]'hlt).toNat : Int) := by
                  rcases Int.lt_or_le 57 ((t[k]'hlt).toNat : Int) with h | h
                  · exact h
                  · exact absurd (dig_int.2 ⟨by omega, h⟩) hd
                clear hd hdf
                go_wp2_with fail
                go_ret
                exact ⟨ret_bool (HN.out.symm.trans HR.out), rfl⟩
          · obtain rfl : k = t.size := by omega
            go_wp2_with fail
            go_ret
            refine ⟨ret_bool ?_, rfl⟩
            have := HA.out
            rw [List.take_of_length_le (by rw [ba_len]; exact Nat.le_refl _)] at this
            exact this.symm.trans HR.out
end Go.Proofs.YthbphlbjjoddeaaDoor
