/- Contracts of trees: verifying; rows of digests turned and compared. -/
import Derived.Test.YtlhjkgohojcbpaaMkF
import Derived.Deep.QuietTactic
import Derived.BigQuiet
namespace Go.Proofs.Ytlhjkgohojcbpaa
open Go.RowKit
set_option linter.unusedVariables false
/-- does a way lead to the root? -/
noncomputable def verN (root leaf : Nat) (i : Int) (l : List Nat) : Bool := decide (l.length ≤ 8 ∧ 0 ≤ i ∧ i < 2 ^ l.length) && (climbN leaf i.toNat l == root)
theorem verN_no {root leaf : Nat} {i : Int} {l : List Nat} (h : ¬ (l.length ≤ 8 ∧ 0 ≤ i ∧ i < 2 ^ l.length)) : verN root leaf i l = false := by
  unfold verN; rw [decide_eq_false h]; rfl
theorem verN_yes {root leaf : Nat} {i : Int} {l : List Nat} (h : l.length ≤ 8 ∧ 0 ≤ i ∧ i < 2 ^ l.length) : verN root leaf i l = (climbN leaf i.toNat l == root) := by
  unfold verN; rw [decide_eq_true h]; rfl
theorem pow_le8 (n : Nat) (h : n ≤ 8) : (2 : Int) ^ n ≤ 256 ∧ 1 ≤ (2 : Int) ^ n := by
  have hc : n = 0 ∨ n = 1 ∨ n = 2 ∨ n = 3 ∨ n = 4 ∨ n = 5 ∨ n = 6 ∨ n = 7 ∨ n = 8 := by omega
  rcases hc with rfl | rfl | rfl | rfl | rfl | rfl | rfl | rfl | rfl <;> decide
theorem ver_any (root leaf : Nat) (i : Int) (A : Option Addr) (c B : Nat) (l : List Nat) (hl : l.length ≤ 1048576) (hi64 : -9223372036854775808 ≤ i ∧ i ≤ 9223372036854775807) (hx : leaf < 18446744073709551616) (hb : ∀ n ∈ l, n < 18446744073709551616) (w : World) (hr : Rd w B A (u64L l)) :
    Calls Try.prog 39 #[.int .u64 root, .int .u64 leaf, .int .i64 i, .slice A l.length c] w fun e w' => e = .returned (.bool (verN root leaf i l)) ∧ w = w' := by
  have HR := Lib.hid hr
  have HB := Lib.hid hb
  clear hr hb
  by_cases h8 : l.length ≤ 8
  · obtain ⟨s, hs⟩ : ∃ s : Int, (2 : Int) ^ l.length = s := ⟨_, rfl⟩
    have hp := pow_le8 l.length h8
    rw [hs] at hp
    have HW : wrap64 (2 ^ l.length) = s := by rw [hs]; unfold wrap64; omega
    by_cases h0 : i < 0
    · rw [verN_no (by omega)]
      clear hs
      go_enter Try.func39, Try.ntmps39
      go_wp2_with fail
      go_ret
      exact ⟨rfl, rfl⟩
    · by_cases h1 : s ≤ i
      · rw [verN_no (by rw [hs]; omega)]
        clear hs
        go_enter Try.func39, Try.ntmps39
        go_wp2_with fail
        go_ret
        exact ⟨rfl, rfl⟩
      · rw [verN_yes (by rw [hs]; omega)]
        obtain ⟨j, rfl⟩ : ∃ j : Nat, i = j := ⟨i.toNat, by omega⟩
        rw [Int.toNat_natCast]
        have C := Lib.hid (fun W h => climb_any leaf j A c B l (by omega) (by omega) hx HB.out W h)
        have hy := climbN_lt l leaf j hx
        clear hs
        generalize climbN leaf j l = y at *
        by_cases he : y = root
        · subst he
          go_enter Try.func39, Try.ntmps39
          go_wp2_with fail
          refine (C.out _ HR.out).mono ?_
          rintro e w' ⟨rfl, rfl⟩
          go_wp2_with fail
          go_ret
          exact ⟨ret_bool (by simp), rfl⟩
        · have hf : (y == root) = false := by simpa using he
          have hf2 : ((y : Int) == (root : Int)) = false := by rw [beq_eq_false_iff_ne]; omega
          rw [hf]
          go_enter Try.func39, Try.ntmps39
          go_wp2_with fail
          refine (C.out _ HR.out).mono ?_
          rintro e w' ⟨rfl, rfl⟩
          go_wp2_with fail
          go_ret
          exact ⟨rfl, rfl⟩
  · rw [verN_no (by omega)]
    have h8' : (8 : Int) < (l.length : Int) := by omega
    go_enter Try.func39, Try.ntmps39
    go_wp2_with fail
    go_ret
    exact ⟨rfl, rfl⟩
theorem refver_any (root leaf : Nat) (i : Int) (A : Option Addr) (c B : Nat) (l : List Nat) (hl : l.length ≤ 1048576) (hi64 : -9223372036854775808 ≤ i ∧ i ≤ 9223372036854775807) (hx : leaf < 18446744073709551616) (hb : ∀ n ∈ l, n < 18446744073709551616) (w : World) (hr : Rd w B A (u64L l)) :
    Calls Try.prog 40 #[.int .u64 root, .int .u64 leaf, .int .i64 i, .slice A l.length c] w fun e w' => e = .returned (.bool (verN root leaf i l)) ∧ w = w' := by
  have HR := Lib.hid hr
  have HB := Lib.hid hb
  clear hr hb
  by_cases h8 : l.length ≤ 8
  · obtain ⟨s, hs⟩ : ∃ s : Int, (2 : Int) ^ l.length = s := ⟨_, rfl⟩
    have hp := pow_le8 l.length h8
    rw [hs] at hp
    have HW : wrap64 (2 ^ l.length) = s := by rw [hs]; unfold wrap64; omega
    by_cases h0 : i < 0
    · rw [verN_no (by omega)]
      clear hs
      go_enter Try.func40, Try.ntmps40
      go_wp2_with fail
      go_ret
      exact ⟨rfl, rfl⟩
    · by_cases h1 : s ≤ i
      · rw [verN_no (by rw [hs]; omega)]
        clear hs
        go_enter Try.func40, Try.ntmps40
        go_wp2_with fail
        go_ret
        exact ⟨rfl, rfl⟩
      · rw [verN_yes (by rw [hs]; omega)]
        obtain ⟨j, rfl⟩ : ∃ j : Nat, i = j := ⟨i.toNat, by omega⟩
        rw [Int.toNat_natCast]
        have C := Lib.hid (fun W h => refclimb_any leaf j A c B l (by omega) (by omega) hx HB.out W h)
        have hy := climbN_lt l leaf j hx
        clear hs
        generalize climbN leaf j l = y at *
        by_cases he : y = root
        · subst he
          go_enter Try.func40, Try.ntmps40
          go_wp2_with fail
          refine (C.out _ HR.out).mono ?_
          rintro e w' ⟨rfl, rfl⟩
          go_wp2_with fail
          go_ret
          exact ⟨ret_bool (by simp), rfl⟩
        · have hf : (y == root) = false := by simpa using he
          have hf2 : ((y : Int) == (root : Int)) = false := by rw [beq_eq_false_iff_ne]; omega
          rw [hf]
          go_enter Try.func40, Try.ntmps40
          go_wp2_with fail
          refine (C.out _ HR.out).mono ?_
          rintro e w' ⟨rfl, rfl⟩
          go_wp2_with fail
          go_ret
          exact ⟨rfl, rfl⟩
  · rw [verN_no (by omega)]
    have h8' : (8 : Int) < (l.length : Int) := by omega
    go_enter Try.func40, Try.ntmps40
    go_wp2_with fail
    go_ret
    exact ⟨rfl, rfl⟩
set_option maxRecDepth 100000 in
theorem mkto_any (A : Option Addr) (c B : Nat) (l : List Nat) (hl : l.length ≤ 1048576) (w : World) (hr : Rd w B A (u64L l)) (hB : B ≤ w.heap.size) :
    Calls Try.prog 31 #[.slice A l.length c] w (RetU w l) := by
  obtain ⟨i0, hi0, hz0, hz1, hz2⟩ := info_parts infoD
  have HR := Lib.hid hr
  clear hr
  go_enter Try.func31, Try.ntmps31
  go_wp2_with fail
  go_loopw [3, 4] (fun pv iv wr => ∃ (k : Nat) (p : Value), p = pv ∧ k ≤ l.length ∧ iv = .int .i64 k ∧ wr.ownsRow w.heap.size 24 1 p k (u64L (l.take k)) ∧ Grew w wr) (fun _ iv _ => l.length - (intOf iv).toNat)
  case atStart => exact ⟨0, _, rfl, Nat.zero_le _, rfl, World.ownsRow_nil _ _ _ _, Below.refl _ _⟩
  case round =>
    obtain ⟨k, p, hp, hk, rfl, hown, hb1⟩ := hrel
    subst hp
    by_cases hlt : k < l.length
    · have hzs := hb1.size
      obtain ⟨ad, rfl, hbl, hc⟩ := rd_u64 ((HR.out.more hB).below hb1) k hlt
      have HA : Hid (l.take (k + 1) = l.take k ++ [l[k]]) := Lib.hid (by rw [List.take_succ_eq_append_getElem hlt])
      generalize l[k] = z at *
      go_wp2_with (at_builtin; refine wpList_append_lies _ rfl _ _ _ rfl w.heap.size 24 i0 _ 1 8 Try.underlying56 hi0 hz0 hz1 hz2 rfl (by omega) p k (u64L (l.take k)) rfl (hown.alloc _) ⟨wr.heap.size, 0, none⟩ 1 1 [.int .u64 (z : Int)] rfl rfl (World.news_of_block (cs := #[.int .u64 (z : Int)]) (t := 24) (fr := (0, 0)) (heap_alloc_new wr _)) (by simp [Value.oneCell']) (by omega) (by unfold maxLen; omega) (by omega) (by simp; omega) (wr.heap.size + 1) (by simp) ?_; intro gg cap w2 hown2 hgrow hat hlt2)
      have hb2 : Grew w w2 := (hb1.alloc hzs _).grown hgrow (by simp; omega) (fun g hg => own_base hown _ hg)
      go_wp2_with fail
      go_roundw
      case rel => exact ⟨k + 1, _, rfl, by omega, by go_num, by rw [HA.out, show u64L (l.take k ++ [z]) = u64L (l.take k) ++ [.int .u64 (z : Int)] by simp [u64L]]; exact hown2, hb2⟩
      case measure => simp [intOf]; omega
    · obtain rfl : k = l.length := by omega
      rw [List.take_length] at hown
      obtain ⟨A3, c3, rfl, hn1, hn2, hrd⟩ := own_rd hown
      have hfr : ∀ ad, A3 = some ad → w.heap.size ≤ ad.block := fun ad h => by subst h; exact own_base hown _ rfl
      have HF := Lib.hid hfr
      clear hfr hown
      go_wp2_with fail
      go_ret
      exact ⟨A3, c3, rfl, hrd, HF.out, hb1⟩
set_option maxRecDepth 100000 in
theorem mkof_any (A : Option Addr) (c B : Nat) (l : List Nat) (hl : l.length ≤ 1048576) (w : World) (hr : Rd w B A (u64L l)) (hB : B ≤ w.heap.size) :
    Calls Try.prog 36 #[.slice A l.length c] w (RetU w l) := by
  obtain ⟨i0, hi0, hz0, hz1, hz2⟩ := info_parts infoU
  have HR := Lib.hid hr
  clear hr
  go_enter Try.func36, Try.ntmps36
  go_wp2_with fail
  go_loopw [3, 4] (fun pv iv wr => ∃ (k : Nat) (p : Value), p = pv ∧ k ≤ l.length ∧ iv = .int .i64 k ∧ wr.ownsRow w.heap.size 22 1 p k (u64L (l.take k)) ∧ Grew w wr) (fun _ iv _ => l.length - (intOf iv).toNat)
  case atStart => exact ⟨0, _, rfl, Nat.zero_le _, rfl, World.ownsRow_nil _ _ _ _, Below.refl _ _⟩
  case round =>
    obtain ⟨k, p, hp, hk, rfl, hown, hb1⟩ := hrel
    subst hp
    by_cases hlt : k < l.length
    · have hzs := hb1.size
      obtain ⟨ad, rfl, hbl, hc⟩ := rd_u64 ((HR.out.more hB).below hb1) k hlt
      have HA : Hid (l.take (k + 1) = l.take k ++ [l[k]]) := Lib.hid (by rw [List.take_succ_eq_append_getElem hlt])
      generalize l[k] = z at *
      go_wp2_with (at_builtin; refine wpList_append_lies _ rfl _ _ _ rfl w.heap.size 22 i0 _ 1 8 Try.underlying43 hi0 hz0 hz1 hz2 rfl (by omega) p k (u64L (l.take k)) rfl (hown.alloc _) ⟨wr.heap.size, 0, none⟩ 1 1 [.int .u64 (z : Int)] rfl rfl (World.news_of_block (cs := #[.int .u64 (z : Int)]) (t := 22) (fr := (0, 0)) (heap_alloc_new wr _)) (by simp [Value.oneCell']) (by omega) (by unfold maxLen; omega) (by omega) (by simp; omega) (wr.heap.size + 1) (by simp) ?_; intro gg cap w2 hown2 hgrow hat hlt2)
      have hb2 : Grew w w2 := (hb1.alloc hzs _).grown hgrow (by simp; omega) (fun g hg => own_base hown _ hg)
      go_wp2_with fail
      go_roundw
      case rel => exact ⟨k + 1, _, rfl, by omega, by go_num, by rw [HA.out, show u64L (l.take k ++ [z]) = u64L (l.take k) ++ [.int .u64 (z : Int)] by simp [u64L]]; exact hown2, hb2⟩
      case measure => simp [intOf]; omega
    · obtain rfl : k = l.length := by omega
      rw [List.take_length] at hown
      obtain ⟨A3, c3, rfl, hn1, hn2, hrd⟩ := own_rd hown
      have hfr : ∀ ad, A3 = some ad → w.heap.size ≤ ad.block := fun ad h => by subst h; exact own_base hown _ rfl
      have HF := Lib.hid hfr
      clear hfr hown
      go_wp2_with fail
      go_ret
      exact ⟨A3, c3, rfl, hrd, HF.out, hb1⟩
set_option maxRecDepth 100000 in
theorem mksame_any (A A' : Option Addr) (c c' B : Nat) (l : List Nat) (hl : l.length ≤ 1048576) (w : World) (hr : Rd w B A (u64L l)) (hr' : Rd w B A' (u64L l)) :
    Calls Try.prog 35 #[.slice A l.length c, .slice A' l.length c'] w fun e w' => e = .returned (.bool true) ∧ Grew w w' := by
  have HR := Lib.hid hr
  have HR' := Lib.hid hr'
  clear hr hr'
  go_enter Try.func35, Try.ntmps35
  go_wp2_with fail
  go_loopw [5] (fun iv wr => ∃ (k n : Nat), k ≤ l.length ∧ iv = .int .i64 k ∧ wr = w.drewN n) (fun iv _ => l.length - (intOf iv).toNat)
  case atStart => exact ⟨0, 0, Nat.zero_le _, rfl, rfl⟩
  case round =>
    obtain ⟨k, n, hk, rfl, rfl⟩ := hrel
    by_cases hlt : k < l.length
    · obtain ⟨ad, rfl, hbl, hc⟩ := rd_u64 HR.out k hlt
      obtain ⟨ad', rfl, hbl', hc'⟩ := rd_u64 HR'.out k hlt
      have hk0 : (0 : Int) ≤ (k : Int) := by omega
      have hk1 : (k : Int) < (l.length : Int) := by omega
      generalize l[k] = z at *
      go_wp2_with fail
      go_quiet (fail)
      go_wp2_with fail
      go_roundw
      case rel => exact ⟨k + 1, n + nq, by omega, by go_num, rfl⟩
      case measure => simp [intOf]; omega
    · obtain rfl : k = l.length := by omega
      go_wp2_with fail
      go_ret
      exact ⟨rfl, grew_drewN (Below.refl _ _) _⟩
end Go.Proofs.Ytlhjkgohojcbpaa
