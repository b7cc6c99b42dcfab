/- Contracts of package ots: what folds the ends, Pub, Sign, Recover, Verify. -/
import Derived.Test.YtlhjkgohojcbpaaOtsA
import Derived.Test.YtlhjkgohojcbpaaOtsD
namespace Go.Proofs.Ytlhjkgohojcbpaa
open Go.RowKit
set_option linter.unusedVariables false
theorem infoDigest : (Try.prog.info? 24).map (fun i => (i.zero, i.size, i.bytes)) = some (some (.int .u64 0), 1, 8) := by kernel_rfl
def tagPk : List UInt8 := [112, 107]
noncomputable def foldN (f : Nat → Nat) : Nat → Nat
  | 0 => 0
  | k + 1 => twoN tagPk (foldN f k) (f k)
theorem foldN_succ (f : Nat → Nat) (k : Nat) : foldN f (k + 1) = twoN tagPk (foldN f k) (f k) := rfl
theorem foldN_lt (f : Nat → Nat) (k : Nat) : foldN f k < 18446744073709551616 := by
  cases k with
  | zero => simp [foldN]
  | succ k => exact twoN_lt _ _ _
theorem foldN_congr (f g : Nat → Nat) (n : Nat) (h : ∀ k, k < n → f k = g k) : foldN f n = foldN g n := by
  induction n with
  | zero => rfl
  | succ n ih => rw [foldN_succ, foldN_succ, ih (fun k hk => h k (by omega)), h n (by omega)]
noncomputable def pubN (s : Nat → Nat) : Nat := foldN (advF s fun _ => 15) 18
noncomputable def signF (s : Nat → Nat) (d : Nat) : Nat → Nat := advF s (digK d)
noncomputable def recN (s : Nat → Nat) (d : Nat) : Nat := foldN (advF s fun k => 15 - digK d k) 18
theorem fold_pub (s d : Nat → Nat) (w : World) (hs : ∀ k, k < 18 → s k < 18446744073709551616) (hd : ∀ k, k < 18 → d k ≤ 15)
    (hf : ∀ k : Nat, k < 18 → ∀ W : World, Grew w W → Calls Try.prog 44 #[.int .i64 k] W fun e w' => e = .returned (.int .i64 (d k : Nat)) ∧ W = w') :
    Calls Try.prog 43 #[.agg (arrU s), .func (.func 44) #[] #[]] w fun e w' => e = .returned (.int .u64 (foldN (advF s d) 18 : Nat)) ∧ Grew w w' := by
  have hsz := arrU_size s
  obtain ⟨i0, hi0, hz0, hz1, hz2⟩ := info_parts infoDigest
  have C1 := Lib.hid (fun (W : World) (h : Grew w W) => adv_pub (arrU s) s d  W hsz (fun k hk => ⟨arrU_get s k hk, hs k hk⟩) hd (fun k hk W' hW' => hf k hk W' (grew_trans h hW')))
  have hy : ∀ k, k < 18 → advF s d k < 18446744073709551616 := fun k hk => chainI_lt _ _ _ (hs k hk)
  have HY := Lib.hid hy
  clear hf hs hd hy
  have hg : Bk (w.alloc (.cells (arrU s) 26)) w.heap.size 26 (arrU s) := Bk.new _ _ _
  have hb0 : Grew w (w.alloc (.cells (arrU s) 26)) := (Below.refl _ _).alloc (Nat.le_refl _) _
  have hi : (Try.prog.info? 26).map (·.size) = some (arrU s).size := by rw [hsz]; kernel_rfl
  unfold Bk at hg
  generalize arrU s = cs at *
  go_enter Try.func43, Try.ntmps43
  go_wp2_with (first
    | (with_reducible refine wpList_load_row rfl 26 _ rfl w.heap.size rfl 26 cs (0, 0) _ hg Try.underlying26 rfl hi ?_))
  refine (C1.out _ hb0).mono ?_
  rintro e w1 ⟨rfl, hb1⟩
  generalize hyy : advF s d = y at *
  have HYY := Lib.hid hyy
  clear hyy
  have hget := arrU_get y
  have hysz := arrU_size y
  have HG := Lib.hid hget
  clear hget
  generalize arrU y = ys at *
  go_wp2_with fail
  go_loop [5, 11] (fun p i => ∃ k : Nat, k ≤ 18 ∧ i = .int .i64 k ∧ p = .int .u64 (foldN y k : Nat)) (fun _ i => 18 - (intOf i).toNat)
  case atStart => exact ⟨0, Nat.zero_le _, rfl, rfl⟩
  case round =>
    obtain ⟨k, hk, rfl, rfl⟩ := hrel
    have hfl := foldN_lt y k
    by_cases hlt : k < 18
    · have hcell := HG.out k hlt
      have hyk := HY.out k hlt
      have HN := Lib.hid (foldN_succ y k)
      have hix := run_index_arr (P := Try.prog) 25 24 18 i0 ys k _ Try.underlying25 hlt (fun w => by kernel_rfl) hi0 hz1 hcell
      go_wp2_with (go_at_call 27; refine (two_any ⟨#[112, 107]⟩ _ _ (by decide) (u64_nat hfl) (u64_nat hyk) _).mono ?_; rintro e w' ⟨rfl, rfl⟩)
      go_round
      case rel => exact ⟨k + 1, by omega, by go_num, by rw [HN.out]; rfl⟩
      case measure => simp [intOf]; omega
    · have HK := Lib.hid (show k = 18 by omega)
      go_wp2
      go_ret
      exact ⟨ret_int (by rw [HK.out, HYY.out]), grew_trans hb0 hb1⟩

theorem fold_rec (s d : Nat → Nat) (g : Nat) (w : World) (hs : ∀ k, k < 18 → s k < 18446744073709551616) (hd : ∀ k, k < 18 → d k ≤ 15)
    (hf : ∀ k : Nat, k < 18 → ∀ W : World, Grew w W → Calls Try.prog 48 #[.int .i64 k, .pointer (some ⟨g, 0, none⟩)] W fun e w' => e = .returned (.int .i64 (d k : Nat)) ∧ W = w') :
    Calls Try.prog 47 #[.agg (arrU s), .func (.func 48) #[] #[.pointer (some ⟨g, 0, none⟩)]] w fun e w' => e = .returned (.int .u64 (foldN (advF s d) 18 : Nat)) ∧ Grew w w' := by
  have hsz := arrU_size s
  obtain ⟨i0, hi0, hz0, hz1, hz2⟩ := info_parts infoDigest
  have C1 := Lib.hid (fun (W : World) (h : Grew w W) => adv_rec (arrU s) s d g W hsz (fun k hk => ⟨arrU_get s k hk, hs k hk⟩) hd (fun k hk W' hW' => hf k hk W' (grew_trans h hW')))
  have hy : ∀ k, k < 18 → advF s d k < 18446744073709551616 := fun k hk => chainI_lt _ _ _ (hs k hk)
  have HY := Lib.hid hy
  clear hf hs hd hy
  have hg : Bk (w.alloc (.cells (arrU s) 33)) w.heap.size 33 (arrU s) := Bk.new _ _ _
  have hb0 : Grew w (w.alloc (.cells (arrU s) 33)) := (Below.refl _ _).alloc (Nat.le_refl _) _
  have hi : (Try.prog.info? 33).map (·.size) = some (arrU s).size := by rw [hsz]; kernel_rfl
  unfold Bk at hg
  generalize arrU s = cs at *
  go_enter Try.func47, Try.ntmps47
  go_wp2_with (first
    | (with_reducible refine wpList_load_row rfl 33 _ rfl w.heap.size rfl 33 cs (0, 0) _ hg Try.underlying33 rfl hi ?_))
  refine (C1.out _ hb0).mono ?_
  rintro e w1 ⟨rfl, hb1⟩
  generalize hyy : advF s d = y at *
  have HYY := Lib.hid hyy
  clear hyy
  have hget := arrU_get y
  have hysz := arrU_size y
  have HG := Lib.hid hget
  clear hget
  generalize arrU y = ys at *
  go_wp2_with fail
  go_loop [5, 11] (fun p i => ∃ k : Nat, k ≤ 18 ∧ i = .int .i64 k ∧ p = .int .u64 (foldN y k : Nat)) (fun _ i => 18 - (intOf i).toNat)
  case atStart => exact ⟨0, Nat.zero_le _, rfl, rfl⟩
  case round =>
    obtain ⟨k, hk, rfl, rfl⟩ := hrel
    have hfl := foldN_lt y k
    by_cases hlt : k < 18
    · have hcell := HG.out k hlt
      have hyk := HY.out k hlt
      have HN := Lib.hid (foldN_succ y k)
      have hix := run_index_arr (P := Try.prog) 25 24 18 i0 ys k _ Try.underlying25 hlt (fun w => by kernel_rfl) hi0 hz1 hcell
      go_wp2_with (go_at_call 27; refine (two_any ⟨#[112, 107]⟩ _ _ (by decide) (u64_nat hfl) (u64_nat hyk) _).mono ?_; rintro e w' ⟨rfl, rfl⟩)
      go_round
      case rel => exact ⟨k + 1, by omega, by go_num, by rw [HN.out]; rfl⟩
      case measure => simp [intOf]; omega
    · have HK := Lib.hid (show k = 18 by omega)
      go_wp2
      go_ret
      exact ⟨ret_int (by rw [HK.out, HYY.out]), grew_trans hb0 hb1⟩

end Go.Proofs.Ytlhjkgohojcbpaa
