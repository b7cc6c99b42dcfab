/- The statements of layer 10: ClockPlays. -/
import Derived.Test.YtpoimhjencpieaaClkK
import Derived.Test.YtpoimhjencpieaaAct
import Derived.Deep.QuietTactic
import Derived.BigQuiet
import Derived.Outline
namespace Go.Proofs.Ytpoimhjencpieaa
open Go.RowKit
set_option linter.unusedVariables false
theorem clockPlays_big (at_ : Int) (A : Option Addr) (c : Nat) (l : List (Int × Int)) (w : World) (h : 100 < l.length) :
    Calls Try.prog 12 #[.int .i64 at_, .slice A l.length c] w fun e w' => e = .returned (.bool true) ∧ Grew w w' := by
  go_enter Try.func12, Try.ntmps12
  go_wp2_with (refine (ckknown_any _).mono ?_; rintro e w1 ⟨rfl, hb1⟩)
  go_ret
  exact ⟨rfl, hb1⟩
theorem clockPlays_no (at_ : Int) (A : Option Addr) (c : Nat) (l : List (Int × Int)) (w : World) (h : l.length ≤ 100) (ha : at_ < 0 ∨ 1099511627776 < at_) :
    Calls Try.prog 12 #[.int .i64 at_, .slice A l.length c] w fun e w' => e = .returned (.bool true) ∧ Grew w w' := by
  go_enter Try.func12, Try.ntmps12
  go_wp2_with (refine (ckknown_any _).mono ?_; rintro e w1 ⟨rfl, hb1⟩)
  refine (cnew_no at_ ha _).mono ?_
  rintro e w' ⟨rfl, rfl⟩
  go_wp2_with fail
  refine (rnew_no at_ ha _).mono ?_
  rintro e w' ⟨rfl, rfl⟩
  go_wp2_with fail
  go_ret
  exact ⟨rfl, hb1⟩
set_option maxRecDepth 100000 in
set_option maxHeartbeats 1000000 in
theorem clockPlays_law (at_ : Int) (A : Option Addr) (c : Nat) (l : List (Int × Int)) (w : World) (h : l.length ≤ 100) (ha : 0 ≤ at_ ∧ at_ ≤ 1099511627776) (hr : RdA w w.heap.size A l)
    (hwf : ∀ p ∈ l, (-9223372036854775808 ≤ p.1 ∧ p.1 ≤ 9223372036854775807) ∧ -9223372036854775808 ≤ p.2 ∧ p.2 ≤ 9223372036854775807) :
    Calls Try.prog 12 #[.int .i64 at_, .slice A l.length c] w fun e w' => e = .returned (.bool true) ∧ Grew w w' := by
  go_enter Try.func12, Try.ntmps12
  go_wp2_with (refine (ckknown_any _).mono ?_; rintro e w1 ⟨rfl, hb1⟩)
  refine (cnew_ok at_ ha.1 ha.2 _).mono ?_
  rintro e w2 ⟨rfl, hb2, hk2, hl2⟩
  go_wp2_with fail
  refine (rnew_ok at_ ha.1 ha.2 _).mono ?_
  rintro e w3 ⟨rfl, hb3, hm3, hl3⟩
  have hk3 := hk2.grew hb3
  have hne : w1.heap.size ≠ w2.heap.size := by omega
  have hB := hb1.size
  have hB2 : w.heap.size ≤ w2.heap.size := by omega
  have hb3' : Grew w w3 := grew_trans (grew_trans hb1 hb2) hb3
  obtain ⟨g0, hg0⟩ : ∃ g, g = w1.heap.size := ⟨_, rfl⟩
  obtain ⟨m, hm⟩ : ∃ g, g = w2.heap.size := ⟨_, rfl⟩
  rw [← hg0] at hk3 hne hB ⊢
  rw [← hm] at hm3 hne hB2 ⊢
  have HW := Lib.hid hwf
  have HR := Lib.hid hr
  clear hg0 hm hl2 hl3 hb1 hb2 hb3 hk2 hwf hr
  go_wp2_with fail
  go_loopw [5, 9, 10] (fun cv lv iv wr => ∃ (k g : Nat) (a f lst : Int), k ≤ l.length ∧ iv = .int .i64 k ∧ cv = .pointer (some ⟨g, 0, none⟩) ∧ lv = .int .i64 lst ∧ (0 ≤ a ∧ a ≤ 1099511627776) ∧ (0 ≤ f ∧ f ≤ 9223372036854775807) ∧ lst ≤ f ∧ 0 ≤ lst ∧ Bk wr g 124 (clkC a f) ∧ Bk wr m 99 (clkC a f) ∧ g ≠ m ∧ w.heap.size ≤ g ∧ Grew w wr) (fun _ _ i _ => l.length - (intOf i).toNat)
  case atStart => exact ⟨0, g0, at_, 0, 0, Nat.zero_le _, rfl, rfl, rfl, ha, by omega, by omega, by omega, hk3, hm3, hne, hB, hb3'⟩
  case round =>
    clear hk3 hm3 hne hB hb3'
    obtain ⟨k, g, a, f, lst, hk, rfl, rfl, rfl, ha, hf, hlf, hl0, hg, hm, hne, hB, hb⟩ := hrel
    by_cases hlt : k < l.length
    · obtain ⟨ad, rfl, hbl, hc0, hc1⟩ := HR.out.below hb k hlt
      have hw := HW.out _ (List.getElem_mem hlt)
      generalize l[k].1 = op at *
      generalize l[k].2 = n at *
      have hzs := hb.size
      have hgl := hg.lt
      have hml := hm.lt
      have hBm : w.heap.size ≤ m := hB2
      by_cases h1 : op = 1
      · subst h1
        by_cases hfull : 1099511627776 ≤ f
        · go_wp2_with fail
          refine (cissue_no g a f hfull _ hg).mono ?_
          rintro e w4 ⟨rfl, ht4, hg4⟩
          have hm4 := hm.tn ht4 (Ne.symm hne)
          have hz4 := tn_size ht4
          have hb4 := below_tn hb ht4 (by omega) hB
          go_wp2_with fail
          refine (rissue_no m a f hfull _ hm4).mono ?_
          rintro e w5 ⟨rfl, ht5, hm5⟩
          have hg5 := hg4.tn ht5 hne
          have hb5 := below_tn hb4 ht5 (by omega) hBm
          go_wp2_with fail
          have q0 := (show _ = some (Value.int .i64 a) from hm5.cell 0)
          have q1 := (show _ = some (Value.int .i64 f) from hm5.cell 1)
          go_quiet (first | (go_at_call 63; exact quietL (cnow_any g a f _ (hg5.drewN _))) | (go_at_call 64; exact quietL (cfloor_any g a f _ (hg5.drewN _))))
          go_wp2_with fail
          go_roundw
          case rel => exact ⟨k + 1, g, a, f, lst, by omega, by go_num, rfl, rfl, by omega, by omega, by omega, by omega, hg5, hm5, hne, hB, grew_drewN hb5 _⟩
          case measure => simp [intOf]; omega
        · obtain ⟨x, hx⟩ : ∃ x, isst a f = x := ⟨_, rfl⟩
          have hx1 : f < x ∧ x ≤ 1099511627776 := by rw [← hx]; unfold isst; split <;> omega
          have CI := Lib.hid (cissue_ok g a f (by omega) (by omega) ha)
          have RI := Lib.hid (rissue_ok m a f (by omega) (by omega) ha)
          rw [hx] at CI RI
          clear hx
          have hxl : ¬ x ≤ lst := by omega
          go_wp2_with fail
          refine (CI.out _ hg).mono ?_
          rintro e w4 ⟨rfl, ht4, hg4⟩
          have hm4 := hm.tn ht4 (Ne.symm hne)
          have hz4 := tn_size ht4
          have hb4 := below_tn hb ht4 (by omega) hB
          go_wp2_with fail
          refine (RI.out _ hm4).mono ?_
          rintro e w5 ⟨rfl, ht5, hm5⟩
          have hg5 := hg4.tn ht5 hne
          have hb5 := below_tn hb4 ht5 (by omega) hBm
          go_wp2_with fail
          have q0 := (show _ = some (Value.int .i64 a) from hm5.cell 0)
          have q1 := (show _ = some (Value.int .i64 x) from hm5.cell 1)
          go_quiet (first | (go_at_call 63; exact quietL (cnow_any g a x _ (hg5.drewN _))) | (go_at_call 64; exact quietL (cfloor_any g a x _ (hg5.drewN _))))
          go_wp2_with fail
          go_roundw
          case rel => exact ⟨k + 1, g, a, x, x, by omega, by go_num, rfl, rfl, by omega, by omega, by omega, by omega, hg5, hm5, hne, hB, grew_drewN hb5 _⟩
          case measure => simp [intOf]; omega
      by_cases h2 : op = 2
      · subst h2
        have hr2 := tkA_range a n ha
        have CI := Lib.hid (ctick_any g a f n ha)
        have RI := Lib.hid (rtick_any m a f n ha)
        generalize tkA a n = a' at *
        generalize tkE a n = er at *
        go_wp2_with fail
        refine (CI.out _ hg).mono ?_
        rintro e w4 ⟨rfl, ht4, hg4⟩
        have hm4 := hm.tn ht4 (Ne.symm hne)
        have hz4 := tn_size ht4
        have hb4 := below_tn hb ht4 (by omega) hB
        go_wp2_with fail
        refine (RI.out _ hm4).mono ?_
        rintro e w5 ⟨rfl, ht5, hm5⟩
        have hg5 := hg4.tn ht5 hne
        have hb5 := below_tn hb4 ht5 (by omega) hBm
        go_wp2_with fail
        have q0 := (show _ = some (Value.int .i64 a') from hm5.cell 0)
        have q1 := (show _ = some (Value.int .i64 f) from hm5.cell 1)
        go_quiet (first | (go_at_call 63; exact quietL (cnow_any g a' f _ (hg5.drewN _))) | (go_at_call 64; exact quietL (cfloor_any g a' f _ (hg5.drewN _))))
        go_wp2_with fail
        go_roundw
        case rel => exact ⟨k + 1, g, a', f, lst, by omega, by go_num, rfl, rfl, by omega, by omega, by omega, by omega, hg5, hm5, hne, hB, grew_drewN hb5 _⟩
        case measure => simp [intOf]; omega
      by_cases h3 : op = 3
      · subst h3
        have hr3 : f ≤ rsF f n ∧ n ≤ rsF f n ∧ rsF f n ≤ 9223372036854775807 := by unfold rsF; split <;> omega
        have CI := Lib.hid (craise_any g a f n)
        have RI := Lib.hid (rraise_any m a f n)
        generalize rsF f n = f' at *
        generalize rsB f n = br at *
        go_wp2_with fail
        refine (RI.out _ hm).mono ?_
        rintro e w4 ⟨rfl, ht4, hm4⟩
        have hg4 := hg.tn ht4 hne
        have hz4 := tn_size ht4
        have hb4 := below_tn hb ht4 (by omega) hBm
        go_wp2_with fail
        refine (CI.out _ hg4).mono ?_
        rintro e w5 ⟨rfl, ht5, hg5⟩
        have hm5 := hm4.tn ht5 (Ne.symm hne)
        have hb5 := below_tn hb4 ht5 (by omega) hB
        go_wp2_with fail
        · have q0 := (show _ = some (Value.int .i64 a) from hm5.cell 0)
          have q1 := (show _ = some (Value.int .i64 f') from hm5.cell 1)
          go_quiet (first | (go_at_call 63; exact quietL (cnow_any g a f' _ (hg5.drewN _))) | (go_at_call 64; exact quietL (cfloor_any g a f' _ (hg5.drewN _))))
          go_wp2_with fail
          go_roundw
          case rel => exact ⟨k + 1, g, a, f', n, by omega, by go_num, rfl, rfl, by omega, by omega, by omega, by omega, hg5, hm5, hne, hB, grew_drewN hb5 _⟩
          case measure => simp [intOf]; omega
        · have q0 := (show _ = some (Value.int .i64 a) from hm5.cell 0)
          have q1 := (show _ = some (Value.int .i64 f') from hm5.cell 1)
          go_quiet (first | (go_at_call 63; exact quietL (cnow_any g a f' _ (hg5.drewN _))) | (go_at_call 64; exact quietL (cfloor_any g a f' _ (hg5.drewN _))))
          go_wp2_with fail
          go_roundw
          case rel => exact ⟨k + 1, g, a, f', lst, by omega, by go_num, rfl, rfl, by omega, by omega, by omega, by omega, hg5, hm5, hne, hB, grew_drewN hb5 _⟩
          case measure => simp [intOf]; omega
      by_cases h4 : op = 4
      · subst h4
        have CI := Lib.hid (ctick_any g a f 1 ha)
        have hr2 := tkA_range a 1 ha
        generalize tkA a 1 = a' at *
        generalize tkE a 1 = er at *
        have RI := Lib.hid (cissue_any g a' f (by omega) hr2)
        generalize isX a' f = x' at *
        generalize isE f = e' at *
        generalize isF a' f = f' at *
        go_wp2_with fail
        refine (ctwin_any g a f _ hg).mono ?_
        rintro e w3' ⟨rfl, hb3, hg3, hl3⟩
        have hgo := hg.grew hb3
        have hmo := hm.grew hb3
        have hne' : wr.heap.size ≠ m := by omega
        have hB' : w.heap.size ≤ wr.heap.size := by omega
        obtain ⟨t, ht⟩ : ∃ t, t = wr.heap.size := ⟨_, rfl⟩
        rw [← ht] at hg3 hl3 hne' hB' ⊢
        have hgt : t ≠ g := by omega
        have hb3' := grew_trans hb hb3
        clear ht
        go_wp2_with fail
        refine (CI.out _ hgo).mono ?_
        rintro e w4 ⟨rfl, ht4, hg4⟩
        have hm4 := hmo.tn ht4 (Ne.symm hne)
        have hq4 := hg3.tn ht4 hgt
        have hz4 := tn_size ht4
        have hz3 := hb3.size
        have hb4 := below_tn hb3' ht4 (by omega) hB
        go_wp2_with fail
        refine (RI.out _ hg4).mono ?_
        rintro e w5 ⟨rfl, ht5, hg5o⟩
        have hm5 := hm4.tn ht5 (Ne.symm hne)
        have hg5 := hq4.tn ht5 hgt
        have hb5 := below_tn hb4 ht5 (by omega) hB
        go_wp2_with fail
        have q0 := (show _ = some (Value.int .i64 a) from hm5.cell 0)
        have q1 := (show _ = some (Value.int .i64 f) from hm5.cell 1)
        go_quiet (first | (go_at_call 63; exact quietL (cnow_any t a f _ (hg5.drewN _))) | (go_at_call 64; exact quietL (cfloor_any t a f _ (hg5.drewN _))))
        go_wp2_with fail
        go_roundw
        case rel => exact ⟨k + 1, t, a, f, lst, by omega, by go_num, rfl, rfl, by omega, by omega, by omega, by omega, hg5, hm5, hne', hB', grew_drewN hb5 _⟩
        case measure => simp [intOf]; omega
      have hg5 := hg
      have hm5 := hm
      have hb5 := hb
      have e1 : (op == 1) = false := by simpa using h1
      have e2 : (op == 2) = false := by simpa using h2
      have e3 : (op == 3) = false := by simpa using h3
      have e4 : (op == 4) = false := by simpa using h4
      go_wp2_with fail
      have q0 := (show _ = some (Value.int .i64 a) from hm5.cell 0)
      have q1 := (show _ = some (Value.int .i64 f) from hm5.cell 1)
      go_quiet (first | (go_at_call 63; exact quietL (cnow_any g a f _ (hg5.drewN _))) | (go_at_call 64; exact quietL (cfloor_any g a f _ (hg5.drewN _))))
      go_wp2_with fail
      go_roundw
      case rel => exact ⟨k + 1, g, a, f, lst, by omega, by go_num, rfl, rfl, by omega, by omega, by omega, by omega, hg5, hm5, hne, hB, grew_drewN hb5 _⟩
      case measure => simp [intOf]; omega
    · obtain rfl : k = l.length := by omega
      go_wp2_with fail
      go_ret
      exact ⟨rfl, hb⟩
end Go.Proofs.Ytpoimhjencpieaa
