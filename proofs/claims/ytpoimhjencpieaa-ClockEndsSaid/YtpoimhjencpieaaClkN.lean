/- The statements of layer 10: ClockEnds. -/
import Derived.Test.YtpoimhjencpieaaClkK
import Derived.Test.YtpoimhjencpieaaLaw
import Derived.IntWalk
namespace Go.Proofs.Ytpoimhjencpieaa
open Go.RowKit
set_option linter.unusedVariables false
theorem clockEnds_big (n : Int) (A : Option Addr) (c : Nat) (l : List UInt8) (w : World) (h : 40 < l.length) :
    Calls Try.prog 14 #[.int .u8 n, .slice A l.length c] w fun e w' => e = .returned (.bool true) ∧ Grew w w' := by
  go_enter Try.func14, Try.ntmps14
  go_wp2_with (refine (ckknown_any _).mono ?_; rintro e w1 ⟨rfl, hb1⟩)
  go_ret
  exact ⟨rfl, hb1⟩
theorem rd_byte {w : World} {B : Nat} {A : Option Addr} {l : List UInt8} (h : Rd w B A (l.map byteV)) (k : Nat) (hk : k < l.length) :
    ∃ ad, A = some ad ∧ ad.block < B ∧ w.cell? (ad.add k) = some (.int .u8 (l[k].toNat : Int)) := by
  obtain ⟨ad, e, hb, hc⟩ := h k (by simpa using hk)
  exact ⟨ad, e, hb, by rw [hc]; simp [byteV]⟩
set_option maxRecDepth 100000 in
set_option maxHeartbeats 1000000 in
theorem clockEnds_law (n : Int) (A : Option Addr) (c : Nat) (l : List UInt8) (w : World) (h : l.length ≤ 40) (hn : 0 ≤ n ∧ n ≤ 255) (hr : Rd w w.heap.size A (l.map byteV)) :
    Calls Try.prog 14 #[.int .u8 n, .slice A l.length c] w fun e w' => e = .returned (.bool true) ∧ Grew w w' := by
  obtain ⟨s, hs⟩ : ∃ s, n % 8 = s := ⟨_, rfl⟩
  have hs0 : 0 ≤ s ∧ s ≤ 7 := by omega
  go_enter Try.func14, Try.ntmps14
  go_wp2_with (refine (ckknown_any _).mono ?_; rintro e w1 ⟨rfl, hb1⟩)
  refine (cnew_ok (1099511627776 - s) (by omega) (by omega) _).mono ?_
  rintro e w2 ⟨rfl, hb2, hk2, hl2⟩
  have hB := hb1.size
  have hb2' : Grew w w2 := grew_trans hb1 hb2
  obtain ⟨g, hg0⟩ : ∃ g, g = w1.heap.size := ⟨_, rfl⟩
  rw [← hg0] at hk2 hB ⊢
  have HR := Lib.hid hr
  have hlen : 0 ≤ l.length := Nat.zero_le _
  clear hg0 hl2 hb1 hb2 hr
  go_wp2_with fail
  go_loopw [8] (fun iv wr => ∃ (k : Nat) (a f : Int), k ≤ l.length ∧ iv = .int .i64 k ∧ (0 ≤ a ∧ a ≤ 1099511627776) ∧ (0 ≤ f ∧ f ≤ 1099511627776) ∧ Bk wr g 124 (clkC a f) ∧ Grew w wr) (fun i _ => l.length - (intOf i).toNat)
  case atStart => exact ⟨0, 1099511627776 - s, 0, Nat.zero_le _, rfl, by omega, by omega, hk2, hb2'⟩
  case round =>
    clear hk2 hb2'
    obtain ⟨k, a, f, hk, rfl, ha, hf, hg, hb⟩ := hrel
    by_cases hlt : k < l.length
    · obtain ⟨ad, rfl, hbl, hc0⟩ := rd_byte (HR.out.below hb) k hlt
      have hw0 : (0 : Int) ≤ (l[k].toNat : Int) := by omega
      have hw1 : (l[k].toNat : Int) ≤ 255 := by have := l[k].toNat_lt; omega
      generalize (l[k].toNat : Int) = z at *
      have hzs := hb.size
      have hgl := hg.lt
      obtain ⟨r, hr⟩ : ∃ r, z % 2 = r := ⟨_, rfl⟩
      obtain ⟨q, hq⟩ : ∃ q, z / 2 % 5 = q := ⟨_, rfl⟩
      have hq2 : 0 ≤ q ∧ q ≤ 4 := by omega
      by_cases h0 : r = 0
      · subst h0
        by_cases hok : a + q ≤ 1099511627776
        · go_wp2_with fail
          refine (cnow_any g a f _ hg).mono ?_
          rintro e w' ⟨rfl, rfl⟩
          go_wp2_with fail
          refine (ctick_ok g a f q (by omega) (by omega) ha _ hg).mono ?_
          rintro e w4 ⟨rfl, ht4, hg4⟩
          have hb4 := below_tn hb ht4 (by omega) (by omega)
          go_wp2_with fail
          go_roundw
          case rel => exact ⟨k + 1, a + q, f, by omega, by go_num, by omega, by omega, hg4, hb4⟩
          case measure => simp [intOf]; omega
        · go_wp2_with fail
          refine (cnow_any g a f _ hg).mono ?_
          rintro e w' ⟨rfl, rfl⟩
          go_wp2_with fail
          refine (ctick_no g a f q (by omega) ha _ hg).mono ?_
          rintro e w4 ⟨rfl, ht4, hg4⟩
          have hb4 := below_tn hb ht4 (by omega) (by omega)
          go_wp2_with (refine (cnow_any g a f _ hg4).mono ?_; rintro e w' ⟨rfl, rfl⟩)
          go_roundw
          case rel => exact ⟨k + 1, a, f, by omega, by go_num, by omega, by omega, hg4, hb4⟩
          case measure => simp [intOf]; omega
      · have h1 : (r == 0) = false := by simpa using h0
        by_cases hfull : 1099511627776 ≤ f
        · go_wp2_with fail
          refine (cfloor_any g a f _ hg).mono ?_
          rintro e w' ⟨rfl, rfl⟩
          go_wp2_with fail
          refine (cissue_no g a f hfull _ hg).mono ?_
          rintro e w4 ⟨rfl, ht4, hg4⟩
          have hb4 := below_tn hb ht4 (by omega) (by omega)
          go_wp2_with (refine (cfloor_any g a f _ hg4).mono ?_; rintro e w' ⟨rfl, rfl⟩)
          go_roundw
          case rel => exact ⟨k + 1, a, f, by omega, by go_num, by omega, by omega, hg4, hb4⟩
          case measure => simp [intOf]; omega
        · obtain ⟨x, hx⟩ : ∃ x, isst a f = x := ⟨_, rfl⟩
          have hx1 : f < x ∧ x ≤ 1099511627776 := by rw [← hx]; unfold isst; split <;> omega
          have CI := Lib.hid (cissue_to g a f x hx (by omega) (by omega) ha)
          clear hx
          have hxl : ¬ x ≤ f := by omega
          go_wp2_with fail
          refine (cfloor_any g a f _ hg).mono ?_
          rintro e w' ⟨rfl, rfl⟩
          go_wp2_with fail
          refine (CI.out _ hg).mono ?_
          rintro e w4 ⟨rfl, ht4, hg4⟩
          have hb4 := below_tn hb ht4 (by omega) (by omega)
          go_wp2_with fail
          go_roundw
          case rel => exact ⟨k + 1, a, x, by omega, by go_num, by omega, by omega, hg4, hb4⟩
          case measure => simp [intOf]; omega
    · obtain rfl : k = l.length := by omega
      go_wp2_with (first | (go_at_call 63; refine (cnow_any g a f _ hg).mono ?_; rintro e w' ⟨rfl, rfl⟩) | (go_at_call 64; refine (cfloor_any g a f _ hg).mono ?_; rintro e w' ⟨rfl, rfl⟩))
      go_ret
      exact ⟨rfl, hb⟩
end Go.Proofs.Ytpoimhjencpieaa
