/- The reference's Nums, parts, ParseNums. -/
import Derived.Test.YthbphlbjjoddeaaDoorNmA
import Derived.Test.YthbphlbjjoddeaaDoorNmD
import Derived.Test.YthbphlbjjoddeaaDoorNmG
import Derived.RegionTactic
import Derived.BigRegion
namespace Go.Proofs.YthbphlbjjoddeaaDoor
open Go.RowKit
set_option linter.unusedVariables false
theorem nums_snoc (l : List Int) (n : Int) (h : l ≠ []) : nums (l ++ [n]) = nums l ++ 44 :: Lib.itoa n := by
  unfold nums
  cases l with
  | nil => exact absurd rfl h
  | cons x l =>
    simp only [List.cons_append, List.map_cons]
    rw [joinC_44, joinC_44]
    simp
theorem nums_one (n : Int) : nums [n] = Lib.itoa n := rfl
theorem nums_take_le (l : List Int) (k : Nat) (h : ∀ x ∈ l, in64 x) : (nums (l.take k)).length ≤ l.length * 21 := by
  have h1 := nums_len (l.take k) (fun x hx => h x (List.mem_of_mem_take hx))
  have h2 : (l.take k).length ≤ l.length := by rw [List.length_take]; omega
  have h3 : (l.take k).length * 21 ≤ l.length * 21 := Nat.mul_le_mul_right 21 h2
  omega
set_option maxRecDepth 100000 in
set_option maxHeartbeats 1000000 in
theorem rnums_ok (A : Option Addr) (c : Nat) (l : List Int) (hl : l.length ≤ 1048576) (hp : ∀ x ∈ l, in64 x) (w : World) (hr : Rd w w.heap.size A (i64L l)) :
    Calls Tryd.prog 26 #[.slice A l.length c] w fun e w' => e = .returned (.string ⟨(nums l).toArray⟩) ∧ Grew w w' := by
  have HPP := Lib.hid hp
  clear hp
  go_enter Tryd.func26, Tryd.ntmps26
  go_wp2_with fail
  go_loopw [3, 4] (fun sv iv wr => ∃ (k : Nat) (t : List UInt8), k ≤ l.length ∧ iv = .int .i64 k ∧ sv = .string ⟨t.toArray⟩ ∧ Hid (t = nums (l.take k)) ∧ Grew w wr) (fun _ iv _ => l.length - (intOf iv).toNat)
  case atStart => exact ⟨0, [], Nat.zero_le _, rfl, rfl, Lib.hid rfl, grew_refl w⟩
  case round =>
    obtain ⟨k, t, hk, rfl, rfl, HT, hg⟩ := hrel
    by_cases hlt : k < l.length
    · obtain ⟨ad, rfl, hbl, hc0⟩ := rd_i64 (hr.below hg) k hlt
      have hk0 : (0 : Int) ≤ (k : Int) := by omega
      have hk1 : (k : Int) < (l.length : Int) := by omega
      have e1 : IntKind.i64.wrap ((k : Int) + 1) = ((k + 1 : Nat) : Int) := by rw [IntWalk.i64_in _ (by omega)]; omega
      have HK := Lib.hid hlt
      have htl : t.length ≤ 22020096 := by
        have := nums_take_le l k HPP.out
        rw [HT.out]; omega
      have HN : Hid (l.take (k + 1) = l.take k ++ [l[k]]) := Lib.hid (List.take_succ_eq_append_getElem hlt)
      have hpx := HPP.out l[k] (List.getElem_mem hlt)
      have cR := fun W => rnum_ok l[k] hpx.1 hpx.2 W
      have hil := itoa_len hpx.1 hpx.2
      generalize l[k] = x at *
      have CR := Lib.hid cR
      clear cR hpx
      by_cases hz : k = 0
      · have hkn : ¬ (0 : Int) < (k : Int) := by omega
        have happ := ba_app t (Lib.itoa x)
        have HR : Hid (t ++ Lib.itoa x = nums (l.take (k + 1))) := Lib.hid (by rw [HN.out, HT.out, hz]; rfl)
        clear hz
        go_wp2_with (first | (go_at_call 33; refine (CR.out _).mono ?_; rintro e w3 ⟨rfl, hg3⟩))
        go_roundw
        case rel => exact ⟨k + 1, _, by have := HK.out; omega, by go_num, rfl, HR, grew_trans hg hg3⟩
        case measure => have h9 := HK.out; simp [intOf]; omega
      · have hkp : (0 : Int) < (k : Int) := by omega
        have hne : l.take k ≠ [] := by
          intro e
          have h9 : (l.take k).length = k := by rw [List.length_take]; omega
          rw [e] at h9
          exact hz h9.symm
        have happ1 := ba_app t [44]
        have happ := ba_app (t ++ [44]) (Lib.itoa x)
        have HR : Hid ((t ++ [44]) ++ Lib.itoa x = nums (l.take (k + 1))) := Lib.hid (by
          rw [HN.out, HT.out, nums_snoc _ _ hne]
          exact List.append_assoc _ _ _)
        clear hne
        have htl2 : (t ++ [44]).length ≤ 22020097 := by rw [List.length_append]; simp; omega
        go_wp2_with (first | (go_at_call 33; refine (CR.out _).mono ?_; rintro e w3 ⟨rfl, hg3⟩))
        go_roundw
        case rel => exact ⟨k + 1, _, by have := HK.out; omega, by go_num, rfl, Lib.hid ((List.append_assoc _ _ _).symm.trans HR.out), grew_trans hg hg3⟩
        case measure => have h9 := HK.out; simp [intOf]; omega
    · obtain rfl : k = l.length := by omega
      rw [List.take_length] at HT
      go_wp2_with fail
      go_ret
      exact ⟨by rw [HT.out]; rfl, hg⟩
/-! parts: between commas -/
def parP (S : List UInt8) (k : Nat) (done : List (List UInt8)) (cur : List UInt8) : Prop := ∀ r, splitC (S.take k ++ r) = done ++ (match splitC r with | [] => [cur] | x :: l => (cur ++ x) :: l)
theorem parP_0 (S : List UInt8) : parP S 0 [] [] := by
  intro r
  cases h : splitC r with
  | nil => exact absurd h (splitC_ne r)
  | cons x l => simp [h]
theorem parP_comma {S : List UInt8} {k : Nat} {done : List (List UInt8)} {cur : List UInt8} (h : parP S k done cur) (hk : k < S.length) (hc : S[k] = 44) : parP S (k + 1) (done ++ [cur]) [] := by
  intro r
  rw [List.take_succ_eq_append_getElem hk, hc, List.append_assoc, h]
  show done ++ (match splitC (44 :: r) with | [] => [cur] | x :: l => (cur ++ x) :: l) = _
  rw [splitC, if_pos rfl]
  cases h2 : splitC r with
  | nil => exact absurd h2 (splitC_ne r)
  | cons x l => simp
theorem parP_other {S : List UInt8} {k : Nat} {done : List (List UInt8)} {cur : List UInt8} (h : parP S k done cur) (hk : k < S.length) (hc : S[k] ≠ 44) : parP S (k + 1) done (cur ++ [S[k]]) := by
  intro r
  rw [List.take_succ_eq_append_getElem hk, List.append_assoc, h]
  show done ++ (match splitC (S[k] :: r) with | [] => [cur] | x :: l => (cur ++ x) :: l) = _
  rw [splitC, if_neg hc]
  cases h2 : splitC r with
  | nil => exact absurd h2 (splitC_ne r)
  | cons x l => simp
theorem parP_end {S : List UInt8} {done : List (List UInt8)} {cur : List UInt8} (h : parP S S.length done cur) : splitC S = done ++ [cur] := by
  have := h []
  simpa [splitC] using this
end Go.Proofs.YthbphlbjjoddeaaDoor
