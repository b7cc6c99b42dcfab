/- The statements of layer 10: ClockRises. -/
import Derived.Test.YtpoimhjencpieaaClkK
import Derived.Test.YtpoimhjencpieaaLaw
import Derived.Deep.QuietTactic
import Derived.BigQuiet
import Derived.Deep.RegionHeld3
import Derived.IntWalk
namespace Go.Proofs.Ytpoimhjencpieaa
open Go.RowKit
set_option linter.unusedVariables false
theorem clockRises_big (at_ : Int) (A : Option Addr) (c : Nat) (l : List Int) (w : World) (h : 100 < l.length) :
    Calls Try.prog 13 #[.int .u16 at_, .slice A l.length c] w fun e w' => e = .returned (.bool true) ∧ Grew w w' := by
  go_enter Try.func13, Try.ntmps13
  go_wp2_with (refine (ckknown_any _).mono ?_; rintro e w1 ⟨rfl, hb1⟩)
  go_ret
  exact ⟨rfl, hb1⟩
theorem craise_S (g : Nat) (a f n : Int) (b : Bool) (f' : Int) (hb : rsB f n = b) (hf : rsF f n = f') (p : Addr) (v : Value) (hp : p.block ≠ g) (w : World) (hg : Bk w g 124 (clkC a f)) (hc : w.cell? p = some v) :
    Calls Try.prog 61 #[.pointer (some ⟨g, 0, none⟩), .int .i64 n] w fun e w' => e = .returned (.bool b) ∧ w'.cell? p = some v ∧ Tn g w w' ∧ Bk w' g 124 (clkC a f') := by
  subst hb hf
  exact (craise_any g a f n w hg).mono fun e w' h => ⟨h.1, h.2.1.cell hc (fun e => hp (by injection e)), h.2.1, h.2.2⟩
theorem rd_u16 {w : World} {B : Nat} {A : Option Addr} {l : List Int} (h : Rd w B A (l.map (Value.int .u16))) (k : Nat) (hk : k < l.length) :
    ∃ ad, A = some ad ∧ ad.block < B ∧ w.cell? (ad.add k) = some (.int .u16 l[k]) := by
  obtain ⟨ad, e, hb, hc⟩ := h k (by simpa using hk)
  exact ⟨ad, e, hb, by rw [hc]; simp⟩
set_option maxRecDepth 100000 in
set_option maxHeartbeats 1000000 in
theorem clockRises_law (at_ : Int) (A : Option Addr) (c : Nat) (l : List Int) (w : World) (h : l.length ≤ 100) (ha : 0 ≤ at_ ∧ at_ ≤ 65535) (hr : Rd w w.heap.size A (l.map (Value.int .u16)))
    (hwf : ∀ z ∈ l, 0 ≤ z ∧ z ≤ 65535) :
    Calls Try.prog 13 #[.int .u16 at_, .slice A l.length c] w fun e w' => e = .returned (.bool true) ∧ Grew w w' := by
  go_enter Try.func13, Try.ntmps13
  go_wp2_with (refine (ckknown_any _).mono ?_; rintro e w1 ⟨rfl, hb1⟩)
  refine (cnew_ok at_ ha.1 (by omega) _).mono ?_
  rintro e w2 ⟨rfl, hb2, hk2, hl2⟩
  have hB := hb1.size
  have hb2' : Grew w w2 := grew_trans hb1 hb2
  obtain ⟨g, hg0⟩ : ∃ g, g = w1.heap.size := ⟨_, rfl⟩
  rw [← hg0] at hk2 hB ⊢
  have HW := Lib.hid hwf
  have HR := Lib.hid hr
  clear hg0 hl2 hb1 hb2 hwf hr
  go_wp2_with fail
  go_loopw [7, 8] (fun lv iv wr => ∃ (k : Nat) (a f lst : Int), k ≤ l.length ∧ iv = .int .i64 k ∧ lv = .int .i64 lst ∧ (0 ≤ a ∧ a ≤ 65535 + 21845 * k) ∧ (0 ≤ f ∧ f ≤ 65535 + 21846 * k) ∧ lst ≤ f ∧ 0 ≤ lst ∧ Bk wr g 124 (clkC a f) ∧ Grew w wr) (fun _ i _ => l.length - (intOf i).toNat)
  case atStart => exact ⟨0, at_, 0, 0, Nat.zero_le _, rfl, rfl, by omega, by omega, by omega, by omega, hk2, hb2'⟩
  case round =>
    clear hk2 hb2'
    obtain ⟨k, a, f, lst, hk, rfl, rfl, ha, hf, hlf, hl0, hg, hb⟩ := hrel
    by_cases hlt : k < l.length
    · obtain ⟨ad, rfl, hbl, hc0⟩ := rd_u16 (HR.out.below hb) k hlt
      have hw := HW.out _ (List.getElem_mem hlt)
      generalize l[k] = z at *
      have hzs := hb.size
      have hgl := hg.lt
      have hk100 : k < 100 := by omega
      obtain ⟨q, hq⟩ : ∃ q, z.tdiv 3 = q := ⟨_, rfl⟩
      have hq2 : 0 ≤ q ∧ q ≤ 21845 := by rw [← hq, Int.tdiv_eq_ediv_of_nonneg (by omega)]; omega
      have hq3 : IntKind.u16.wrap q = q := IntWalk.u16_in q (by omega)
      have hq4 : wrap64 q = q := by unfold wrap64; omega
      have hq5 : IntKind.i64.wrap q = q := IntWalk.i64_in q (by omega)
      obtain ⟨r, hr⟩ : ∃ r, z % 3 = r := ⟨_, rfl⟩
      have hr2 : 0 ≤ r ∧ r ≤ 2 := by omega
      by_cases h0 : r = 0
      · subst h0
        have hr3 : a ≤ tkA a q ∧ tkA a q ≤ a + q := by unfold tkA; split <;> omega
        have CI := Lib.hid (ctick_any g a f q (by omega))
        generalize tkA a q = a' at *
        generalize tkE a q = er at *
        go_wp2_with fail
        refine (CI.out _ hg).mono ?_
        rintro e w4 ⟨rfl, ht4, hg4⟩
        have hz4 := tn_size ht4
        have hb4 := below_tn hb ht4 (by omega) (by omega)
        go_wp2_with fail
        refine (cfloor_any g a' f _ hg4).mono ?_
        rintro e w' ⟨rfl, rfl⟩
        by_cases hmx : f + 1 ≤ a'
        · have CI := Lib.hid (cissue_to g a' f (a') (by unfold isst; split <;> omega) (by omega) (by omega) (by omega))
          go_wp2_with fail
          refine (CI.out _ hg4).mono ?_
          rintro e w8 ⟨rfl, ht8, hg8⟩
          have hb8 := below_tn hb4 ht8 (by omega) (by omega)
          go_wp2_with (first | (go_at_call 63; refine (cnow_any g a' (a') _ hg8).mono ?_; rintro e w' ⟨rfl, rfl⟩) | (go_at_call 64; refine (cfloor_any g a' (a') _ hg8).mono ?_; rintro e w' ⟨rfl, rfl⟩))
          go_roundw
          case rel => exact ⟨k + 1, a', a', a', by omega, by go_num, rfl, by omega, by omega, by omega, by omega, hg8, hb8⟩
          case measure => simp [intOf]; omega
        · have CI := Lib.hid (cissue_to g a' f (f + 1) (by unfold isst; split <;> omega) (by omega) (by omega) (by omega))
          go_wp2_with fail
          refine (CI.out _ hg4).mono ?_
          rintro e w8 ⟨rfl, ht8, hg8⟩
          have hb8 := below_tn hb4 ht8 (by omega) (by omega)
          go_wp2_with (first | (go_at_call 63; refine (cnow_any g a' (f + 1) _ hg8).mono ?_; rintro e w' ⟨rfl, rfl⟩) | (go_at_call 64; refine (cfloor_any g a' (f + 1) _ hg8).mono ?_; rintro e w' ⟨rfl, rfl⟩))
          go_roundw
          case rel => exact ⟨k + 1, a', f + 1, f + 1, by omega, by go_num, rfl, by omega, by omega, by omega, by omega, hg8, hb8⟩
          case measure => simp [intOf]; omega
      by_cases h1 : r = 1
      · subst h1
        go_wp2_with fail
        refine (cfloor_any g a f _ hg).mono ?_
        rintro e w' ⟨rfl, rfl⟩
        go_wp2_with fail
        have hr3 : f ≤ rsF f q ∧ q ≤ rsF f q ∧ rsF f q ≤ f + q := by unfold rsF; split <;> omega
        have hadg : (ad.add k).block ≠ g := by rw [blk_add]; omega
        by_cases hfq : f < q
        · have CI := Lib.hid (craise_S g a f q (rsB f q) (rsF f q) rfl rfl (ad.add k) (.int .u16 z) hadg)
          rw [show rsB f q = true from decide_eq_true hfq, show rsF f q = q from if_pos hfq] at CI
          go_region_held3 (fun w' => w'.cell? (ad.add k) = some (.int .u16 z)) (go_keep)
            (first | (go_at_call 61; refine (CI.out _ ?_ ?_).mono ?_; (first | exact hg | exact hg.drew); (first | exact hc0 | assumption); rintro e w4 ⟨rfl, hc4, ht4, hg4⟩) | (go_at_call 64; refine (cfloor_any g a q _ hg4).mono ?_; rintro e w' ⟨rfl, rfl⟩))
          all_goals
            have ht4' : Tn g wr w4 := by first | exact ht4 | exact tn_trans (tn_drew (tn_refl _ _)) ht4
            have hb4 := below_tn hb ht4' (by omega) (by omega)
            first
              | (exfalso; omega)
              | (go_wp2_with fail; go_roundw; (case rel => exact ⟨k + 1, a, q, lst, by omega, by go_num, rfl, by omega, by omega, by omega, by omega, hg4, hb4⟩); (case measure => simp [intOf]; omega))
        · have CI := Lib.hid (craise_S g a f q (rsB f q) (rsF f q) rfl rfl (ad.add k) (.int .u16 z) hadg)
          rw [show rsB f q = false from decide_eq_false hfq, show rsF f q = f from if_neg hfq] at CI
          go_region_held3 (fun w' => w'.cell? (ad.add k) = some (.int .u16 z)) (go_keep)
            (first | (go_at_call 61; refine (CI.out _ ?_ ?_).mono ?_; (first | exact hg | exact hg.drew); (first | exact hc0 | assumption); rintro e w4 ⟨rfl, hc4, ht4, hg4⟩) | (go_at_call 64; refine (cfloor_any g a f _ hg4).mono ?_; rintro e w' ⟨rfl, rfl⟩))
          all_goals
            have ht4' : Tn g wr w4 := by first | exact ht4 | exact tn_trans (tn_drew (tn_refl _ _)) ht4
            have hb4 := below_tn hb ht4' (by omega) (by omega)
            first
              | (exfalso; omega)
              | (go_wp2_with fail; go_roundw; (case rel => exact ⟨k + 1, a, f, lst, by omega, by go_num, rfl, by omega, by omega, by omega, by omega, hg4, hb4⟩); (case measure => simp [intOf]; omega))
      obtain rfl : r = 2 := by omega
      go_wp2_with fail
      refine (cfloor_any g a f _ hg).mono ?_
      rintro e w' ⟨rfl, rfl⟩
      by_cases hmx : f + 1 ≤ a
      · have CI := Lib.hid (cissue_to g a f (a) (by unfold isst; split <;> omega) (by omega) (by omega) (by omega))
        go_wp2_with fail
        refine (CI.out _ hg).mono ?_
        rintro e w8 ⟨rfl, ht8, hg8⟩
        have hb8 := below_tn hb ht8 (by omega) (by omega)
        go_wp2_with (first | (go_at_call 63; refine (cnow_any g a (a) _ hg8).mono ?_; rintro e w' ⟨rfl, rfl⟩) | (go_at_call 64; refine (cfloor_any g a (a) _ hg8).mono ?_; rintro e w' ⟨rfl, rfl⟩))
        go_roundw
        case rel => exact ⟨k + 1, a, a, a, by omega, by go_num, rfl, by omega, by omega, by omega, by omega, hg8, hb8⟩
        case measure => simp [intOf]; omega
      · have CI := Lib.hid (cissue_to g a f (f + 1) (by unfold isst; split <;> omega) (by omega) (by omega) (by omega))
        go_wp2_with fail
        refine (CI.out _ hg).mono ?_
        rintro e w8 ⟨rfl, ht8, hg8⟩
        have hb8 := below_tn hb ht8 (by omega) (by omega)
        go_wp2_with (first | (go_at_call 63; refine (cnow_any g a (f + 1) _ hg8).mono ?_; rintro e w' ⟨rfl, rfl⟩) | (go_at_call 64; refine (cfloor_any g a (f + 1) _ hg8).mono ?_; rintro e w' ⟨rfl, rfl⟩))
        go_roundw
        case rel => exact ⟨k + 1, a, f + 1, f + 1, by omega, by go_num, rfl, by omega, by omega, by omega, by omega, hg8, hb8⟩
        case measure => simp [intOf]; omega
    · obtain rfl : k = l.length := by omega
      go_wp2_with fail
      go_ret
      exact ⟨rfl, hb⟩
end Go.Proofs.Ytpoimhjencpieaa
