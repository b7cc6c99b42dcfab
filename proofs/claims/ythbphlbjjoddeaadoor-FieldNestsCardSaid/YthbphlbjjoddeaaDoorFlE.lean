/- FieldNests. -/
import Derived.Test.YthbphlbjjoddeaaDoorFlJ
namespace Go.Proofs.YthbphlbjjoddeaaDoor
open Go.RowKit
set_option linter.unusedVariables false
def nest (t : List UInt8) : Nat → List UInt8
  | 0 => t
  | n + 1 => joinF [[120], nest t n]
theorem nest_len (t : List UInt8) (h : t.length ≤ 200) : ∀ n, n ≤ 4 → (nest t n).length ≤ 4000 := by
  have key : ∀ n, (nest t n).length + 3 ≤ 203 * 2 ^ n := by
    intro n
    induction n with
    | zero => simp [nest]; omega
    | succ n ih =>
      have h2 := fld_len (nest t n)
      rw [nest, joinF_cons, joinF_cons, joinF_nil, Nat.pow_succ]
      have h3 : fld [120] = [120] := by decide
      rw [h3]
      simp only [List.length_cons, List.length_append, List.length_nil]
      omega
  intro n hn
  have := key n
  have h2 : 2 ^ n ≤ 2 ^ 4 := Nat.pow_le_pow_right (by decide) hn
  have : 203 * 2 ^ n ≤ 203 * 16 := Nat.mul_le_mul_left _ h2
  omega
def nestS (t : List UInt8) (n : Nat) : ByteArray := ⟨(nest t n).toArray⟩
theorem nestS_size (t : List UInt8) (n : Nat) : (nestS t n).size = (nest t n).length := by show (nest t n).toArray.size = _; simp
set_option maxRecDepth 100000 in
set_option maxHeartbeats 4000000 in
theorem fieldNests_law (A : Option Addr) (c : Nat) (a : List ByteArray) (n : Int) (hn : 0 ≤ n ∧ n ≤ 255) (w : World) (hS : Std w) (hr : Rd w w.heap.size A (strL a)) :
    Calls Tryd.prog 7 #[.slice A a.length c, .int .u8 n] w fun e w' => e = .returned (.bool true) ∧ Grew w w' := by
  have hg8 : 3 < w.heap.size := by obtain ⟨m, hm⟩ := hS.mx; exact cell_lt hm
  have CK := Lib.hid (fknown_ok w hS hg8)
  have HR := Lib.hid hr
  obtain ⟨hn0, hn1⟩ := hn
  obtain ⟨k, hk⟩ : ∃ k : Nat, n % 5 = (k : Int) := ⟨(n % 5).toNat, by omega⟩
  have hk4 : k ≤ 4 := by omega
  clear hg8 hS hr
  go_enter Tryd.func7, Tryd.ntmps7
  go_wp2_with (go_at_call 14; refine (CK.out).mono ?_; rintro e w1 ⟨rfl, g1⟩)
  have cS := short_ok A c a w1 (HR.out.grew g1)
  cases hsa : shortB a with
  | false =>
    rw [hsa] at cS
    clear hsa
    refine cS.mono ?_
    rintro e w' ⟨rfl, hw⟩
    have hw := hw.symm
    subst hw
    go_wp2_with fail
    go_ret
    exact ⟨rfl, g1⟩
  | true =>
    have HSA := Lib.hid (short_len hsa)
    rw [hsa] at cS
    clear hsa
    refine cS.mono ?_
    rintro e w' ⟨rfl, hw⟩
    have hw := hw.symm
    subst hw
    clear cS
    by_cases h8 : 8 < a.length
    · have h8i : (8 : Int) < (a.length : Int) := by omega
      go_wp2_with fail
      go_ret
      exact ⟨rfl, g1⟩
    · have h8i : ¬ (8 : Int) < (a.length : Int) := by omega
      have cJ := join_ok A c a (by have := HSA.out.1; omega) (by have := HSA.out.2; omega) w1 (HR.out.grew g1)
      obtain ⟨t, ht⟩ : ∃ t, joinF (bys a) = t := ⟨_, rfl⟩
      have h0 : (⟨t.toArray⟩ : ByteArray) = nestS t 0 := rfl
      have hsp0 : splitF t = some (bys a) := by rw [← ht]; exact split_join _
      have HSP0 := Lib.hid hsp0
      rw [ht, h0] at cJ
      have CJ := Lib.hid cJ
      clear cJ h0 ht hsp0 h8
      go_wp2_with fail
      refine (CJ.out).mono ?_
      rintro e w2 ⟨rfl, gg⟩
      have g2 := grew_trans g1 gg
      clear g1 gg CJ
      by_cases hbig : 200 < t.length
      · have hbi : (200 : Int) < ((nestS t 0).size : Int) := by rw [nestS_size]; show (200 : Int) < (t.length : Int); omega
        go_wp2_with fail
        go_ret
        exact ⟨rfl, g2⟩
      · have hbi : ¬ (200 : Int) < ((nestS t 0).size : Int) := by rw [nestS_size]; show ¬ (200 : Int) < (t.length : Int); omega
        have HNL := Lib.hid (nest_len t (by omega))
        clear hbig
        go_wp2_with fail
        go_loopw [6, 7] (fun sv iv wr => ∃ i : Nat, i ≤ k ∧ iv = .int .i64 i ∧ sv = .string (nestS t i) ∧ Grew w wr) (fun _ iv _ => k - (intOf iv).toNat)
        case atStart => exact ⟨0, Nat.zero_le _, rfl, rfl, g2⟩
        case round =>
          obtain ⟨i, hi, rfl, rfl, hg⟩ := hrel
          by_cases hlt : i < k
          · have hk0 : (0 : Int) ≤ (i : Int) := by omega
            have hk1 : (i : Int) < (k : Int) := by omega
            have e1 : IntKind.i64.wrap ((i : Int) + 1) = ((i + 1 : Nat) : Int) := by rw [IntWalk.i64_in _ (by omega)]; omega
            have HK := Lib.hid hlt
            have hb2 : bys [⟨#[120]⟩, nestS t i] = [[120], nest t i] := rfl
            have hjn : joinF (bys [⟨#[120]⟩, nestS t i]) = nest t (i + 1) := by rw [hb2]; rfl
            have cJ := join_ok (some ⟨wr.heap.size, 0, none⟩) 2 [⟨#[120]⟩, nestS t i] (by simp) (by rw [hjn]; have := HNL.out (i + 1) (by omega); omega) (wr.alloc (.cells #[.string ⟨#[120]⟩, .string (nestS t i)] 9)) ((rd_new wr 9 #[.string ⟨#[120]⟩, .string (nestS t i)] (0, 0)).more (by simp))
            rw [hjn, show (⟨(nest t (i + 1)).toArray⟩ : ByteArray) = nestS t (i + 1) from rfl] at cJ
            have CJ := Lib.hid cJ
            clear cJ hb2 hjn
            go_wp2_with (go_at_call 16; refine (CJ.out).mono ?_; rintro e w3 ⟨rfl, hg3⟩)
            go_roundw
            case rel => exact ⟨i + 1, by have := HK.out; omega, by go_num, rfl, grew_trans (grew_alloc hg _) hg3⟩
            case measure => have h9 := HK.out; simp [intOf]; omega
          · obtain rfl : i = k := by omega
            clear g2 hbi h8i
            go_wp2_with fail
            go_loopw [6, 8] (fun sv iv wr => ∃ j : Nat, j ≤ i ∧ iv = .int .i64 j ∧ sv = .string (nestS t (i - j)) ∧ Grew w wr) (fun _ iv _ => i - (intOf iv).toNat)
            case atStart => exact ⟨0, Nat.zero_le _, rfl, rfl, hg⟩
            case round =>
              obtain ⟨j, hj, rfl, rfl, hg⟩ := hrel
              by_cases hlt : j < i
              · have hk0 : (0 : Int) ≤ (j : Int) := by omega
                have hk1 : (j : Int) < (i : Int) := by omega
                have e1 : IntKind.i64.wrap ((j : Int) + 1) = ((j + 1 : Nat) : Int) := by rw [IntWalk.i64_in _ (by omega)]; omega
                have HK := Lib.hid hlt
                obtain ⟨m, hm⟩ : ∃ m, i - j = m + 1 := ⟨i - j - 1, by omega⟩
                have hm2 : i - (j + 1) = m := by omega
                have hsp : splitF (nestS t (m + 1)).data.toList = some [[120], nest t m] := split_join [[120], nest t m]
                have CS := Lib.hid (fun W => split_some hsp (by simp) (by rw [nestS_size]; have := HNL.out (m + 1) (by omega); omega) W)
                have HM2 := Lib.hid hm2
                rw [hm]
                clear hsp hm hm2
                go_wp2_with (go_at_call 17; refine (CS.out _).mono ?_; rintro e w3 ⟨⟨v3, rfl, o3⟩, hg3⟩; have o3 : w3.ownsRow wr.heap.size 9 1 v3 (1 + 1) (strL (txt [[120], nest t m])) := o3; obtain ⟨g, cap, rfl⟩ := ownsRow_succ o3; have c0 := o3.cellAt 0 (by decide); have c1 := o3.cellAt 1 (by decide); rw [show (strL (txt [[120], nest t m]))[0]? = some (.string ⟨#[120]⟩) from rfl] at c0; rw [show (strL (txt [[120], nest t m]))[1]? = some (.string (nestS t m)) from rfl] at c1)
                go_roundw
                case rel => exact ⟨j + 1, by have := HK.out; omega, by go_num, by rw [HM2.out], grew_trans hg hg3⟩
                case measure => have h9 := HK.out; simp [intOf]; omega
              · obtain rfl : j = i := by omega
                have HL := Lib.hid (show (bys a).length ≤ 4096 by rw [bys_length]; have := HSA.out.1; omega)
                have CS := Lib.hid (fun W => split_some (s := nestS t 0) HSP0.out HL.out (by rw [nestS_size]; have := HNL.out 0 (by omega); omega) W)
                rw [show j - j = 0 from by omega]
                go_wp2_with (go_at_call 17; refine (CS.out _).mono ?_; rintro e w3 ⟨⟨v3, rfl, o3⟩, hg3⟩)
                have g4 := grew_trans hg hg3
                obtain ⟨A4, c4, rfl, _, _, r4⟩ := own_rd o3
                rw [bys_txt] at r4
                rw [bys_length]
                clear hg hg3 o3
                go_wp2_with fail
                have cN := names_any A4 A c4 c _ _ a a (by have := HSA.out.1; omega) (by have := HSA.out.1; omega) w3 r4 (HR.out.grew g4)
                rw [decide_eq_true rfl] at cN
                refine cN.mono ?_
                clear cN
                rintro e w5 ⟨rfl, n5, hw⟩
                have gg : Grew w3 w5 := by rw [hw]; exact grew_drewN (grew_refl w3) n5
                have g5 := grew_trans g4 gg
                clear g4 gg hw
                go_wp2_with fail
                go_ret
                exact ⟨rfl, g5⟩
end Go.Proofs.YthbphlbjjoddeaaDoor
