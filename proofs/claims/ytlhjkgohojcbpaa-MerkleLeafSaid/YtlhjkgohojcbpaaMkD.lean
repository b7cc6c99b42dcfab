/- Contracts of trees: roots, ways, climbing: the program's and the document's. -/
import Derived.Test.YtlhjkgohojcbpaaMkC
import Derived.Test.YtlhjkgohojcbpaaMkM
import Derived.Outline
namespace Go.Proofs.Ytlhjkgohojcbpaa
open Go.RowKit
set_option linter.unusedVariables false
def lenOf : Value → Nat
  | .slice _ n _ => n
  | _ => 0
theorem rd_u64_0 {w : World} {B : Nat} {A : Option Addr} {x : Nat} (h : Rd w B A (u64L [x])) : ∃ ad, A = some ad ∧ ad.block < B ∧ w.cell? ad = some (.int .u64 (x : Int)) := by
  obtain ⟨ad, h1, h2, h3⟩ := rd_u64 h 0 (by simp)
  exact ⟨ad, h1, h2, by simpa [Addr.add] using h3⟩
theorem leavesOk_true {n : Nat} (h : n = 1 ∨ n = 2 ∨ n = 4 ∨ n = 8 ∨ n = 16 ∨ n = 32 ∨ n = 64 ∨ n = 128 ∨ n = 256) : leavesOk n = true := by
  unfold leavesOk pow2B
  simpa using h
theorem leaves_any (n : Nat) (hn : n < 9223372036854775808) (w : World) :
    Calls Try.prog 56 #[.int .i64 n] w fun e w' => e = .returned (.bool (leavesOk n)) ∧ w = w' := by
  go_enter Try.func56, Try.ntmps56
  go_wp2_with fail
  go_loop [3] (fun i => ∃ k : Nat, k ≤ 9 ∧ i = .int .i64 k ∧ Hid (∀ j, j < k → n ≠ 2 ^ j)) (fun i => 9 - (intOf i).toNat)
  case atStart => exact ⟨0, Nat.zero_le _, rfl, Lib.hid (fun j hj => absurd hj (by omega))⟩
  case round =>
    obtain ⟨k, hk, rfl, HN⟩ := hrel
    have hc : k = 0 ∨ k = 1 ∨ k = 2 ∨ k = 3 ∨ k = 4 ∨ k = 5 ∨ k = 6 ∨ k = 7 ∨ k = 8 ∨ k = 9 := by omega
    clear hk
    rcases hc with rfl | rfl | rfl | rfl | rfl | rfl | rfl | rfl | rfl | rfl
    · by_cases hx : n = 1
      · subst hx
        go_wp2_with fail
        go_ret
        exact ⟨ret_bool (leavesOk_true (by decide)).symm, rfl⟩
      · have hx' : ¬ (n : Int) = 1 := by omega
        go_wp2_with fail
        go_round
        case rel =>
          refine ⟨1, by omega, by go_num, Lib.hid (fun j hj => ?_)⟩
          by_cases hj2 : j = 0
          · subst hj2; exact hx
          · exact HN.out j (by omega)
        case measure => simp [intOf]
    · by_cases hx : n = 2
      · subst hx
        go_wp2_with fail
        go_ret
        exact ⟨ret_bool (leavesOk_true (by decide)).symm, rfl⟩
      · have hx' : ¬ (n : Int) = 2 := by omega
        go_wp2_with fail
        go_round
        case rel =>
          refine ⟨2, by omega, by go_num, Lib.hid (fun j hj => ?_)⟩
          by_cases hj2 : j = 1
          · subst hj2; exact hx
          · exact HN.out j (by omega)
        case measure => simp [intOf]
    · by_cases hx : n = 4
      · subst hx
        go_wp2_with fail
        go_ret
        exact ⟨ret_bool (leavesOk_true (by decide)).symm, rfl⟩
      · have hx' : ¬ (n : Int) = 4 := by omega
        go_wp2_with fail
        go_round
        case rel =>
          refine ⟨3, by omega, by go_num, Lib.hid (fun j hj => ?_)⟩
          by_cases hj2 : j = 2
          · subst hj2; exact hx
          · exact HN.out j (by omega)
        case measure => simp [intOf]
    · by_cases hx : n = 8
      · subst hx
        go_wp2_with fail
        go_ret
        exact ⟨ret_bool (leavesOk_true (by decide)).symm, rfl⟩
      · have hx' : ¬ (n : Int) = 8 := by omega
        go_wp2_with fail
        go_round
        case rel =>
          refine ⟨4, by omega, by go_num, Lib.hid (fun j hj => ?_)⟩
          by_cases hj2 : j = 3
          · subst hj2; exact hx
          · exact HN.out j (by omega)
        case measure => simp [intOf]
    · by_cases hx : n = 16
      · subst hx
        go_wp2_with fail
        go_ret
        exact ⟨ret_bool (leavesOk_true (by decide)).symm, rfl⟩
      · have hx' : ¬ (n : Int) = 16 := by omega
        go_wp2_with fail
        go_round
        case rel =>
          refine ⟨5, by omega, by go_num, Lib.hid (fun j hj => ?_)⟩
          by_cases hj2 : j = 4
          · subst hj2; exact hx
          · exact HN.out j (by omega)
        case measure => simp [intOf]
    · by_cases hx : n = 32
      · subst hx
        go_wp2_with fail
        go_ret
        exact ⟨ret_bool (leavesOk_true (by decide)).symm, rfl⟩
      · have hx' : ¬ (n : Int) = 32 := by omega
        go_wp2_with fail
        go_round
        case rel =>
          refine ⟨6, by omega, by go_num, Lib.hid (fun j hj => ?_)⟩
          by_cases hj2 : j = 5
          · subst hj2; exact hx
          · exact HN.out j (by omega)
        case measure => simp [intOf]
    · by_cases hx : n = 64
      · subst hx
        go_wp2_with fail
        go_ret
        exact ⟨ret_bool (leavesOk_true (by decide)).symm, rfl⟩
      · have hx' : ¬ (n : Int) = 64 := by omega
        go_wp2_with fail
        go_round
        case rel =>
          refine ⟨7, by omega, by go_num, Lib.hid (fun j hj => ?_)⟩
          by_cases hj2 : j = 6
          · subst hj2; exact hx
          · exact HN.out j (by omega)
        case measure => simp [intOf]
    · by_cases hx : n = 128
      · subst hx
        go_wp2_with fail
        go_ret
        exact ⟨ret_bool (leavesOk_true (by decide)).symm, rfl⟩
      · have hx' : ¬ (n : Int) = 128 := by omega
        go_wp2_with fail
        go_round
        case rel =>
          refine ⟨8, by omega, by go_num, Lib.hid (fun j hj => ?_)⟩
          by_cases hj2 : j = 7
          · subst hj2; exact hx
          · exact HN.out j (by omega)
        case measure => simp [intOf]
    · by_cases hx : n = 256
      · subst hx
        go_wp2_with fail
        go_ret
        exact ⟨ret_bool (leavesOk_true (by decide)).symm, rfl⟩
      · have hx' : ¬ (n : Int) = 256 := by omega
        go_wp2_with fail
        go_round
        case rel =>
          refine ⟨9, by omega, by go_num, Lib.hid (fun j hj => ?_)⟩
          by_cases hj2 : j = 8
          · subst hj2; exact hx
          · exact HN.out j (by omega)
        case measure => simp [intOf]
    · go_wp2_with fail
      go_ret
      refine ⟨ret_bool ?_, rfl⟩
      cases hb : leavesOk n with
      | false => rfl
      | true =>
        have h := HN.out
        have h0 := h 0 (by omega)
        have h1 := h 1 (by omega)
        have h2 := h 2 (by omega)
        have h3 := h 3 (by omega)
        have h4 := h 4 (by omega)
        have h5 := h 5 (by omega)
        have h6 := h 6 (by omega)
        have h7 := h 7 (by omega)
        have h8 := h 8 (by omega)
        have := leavesOk_cases n hb
        omega
theorem root_no (A : Option Addr) (c : Nat) (l : List Nat) (hl : l.length ≤ 1048576) (hk : leavesOk l.length = false) (w : World) :
    Calls Try.prog 30 #[.slice A l.length c] w fun e w' => e = .returned (.tuple #[.int .u64 0, .int .i64 1]) ∧ w = w' := by
  have C := Lib.hid (fun W => count_any l.length (by omega) W)
  rw [hk] at C
  go_enter Try.func30, Try.ntmps30
  go_wp2_with fail
  refine (C.out _).mono ?_
  rintro e w' ⟨rfl, rfl⟩
  go_wp2_with fail
  go_ret2
  exact ⟨rfl, rfl⟩
theorem root_ok (A : Option Addr) (c B : Nat) (l : List Nat) (hl : l.length ≤ 1048576) (hk : leavesOk l.length = true) (hb : ∀ n ∈ l, n < 18446744073709551616) (w : World) (hr : Rd w B A (u64L l)) (hB : B ≤ w.heap.size) :
    Calls Try.prog 30 #[.slice A l.length c] w fun e w' => e = .returned (.tuple #[.int .u64 (rootN l : Nat), .int .i64 0]) ∧ Grew w w' := by
  have C := Lib.hid (fun W => count_any l.length (by omega) W)
  rw [hk] at C
  have HK := Lib.hid hk
  have HB := Lib.hid hb
  clear hk hb
  go_enter Try.func30, Try.ntmps30
  go_wp2_with fail
  refine (C.out _).mono ?_
  rintro e w' ⟨rfl, rfl⟩
  go_wp2_with fail
  go_loopw [0] (fun v wr => ∃ (A' : Option Addr) (c' : Nat) (cur : List Nat), v = .slice A' cur.length c' ∧ cur.length ≤ 1048576 ∧ Rd wr wr.heap.size A' (u64L cur) ∧ Hid (leavesOk cur.length = true) ∧ Hid (∀ n ∈ cur, n < 18446744073709551616) ∧ Hid (rootN cur = rootN l) ∧ Grew w wr) (fun v _ => lenOf v)
  case atStart => exact ⟨A, c, l, rfl, hl, hr.more hB, HK, HB, Lib.hid rfl, Below.refl _ _⟩
  case round =>
    clear hr hl
    obtain ⟨A', c', cur, rfl, hl, hr, HK2, HB2, HR2, hb1⟩ := hrel
    have hle := leaves_le _ HK2.out
    by_cases h1 : 1 < cur.length
    · have h1' : (1 : Int) < (cur.length : Int) := by omega
      go_wp2_with fail
      refine (pairs_any A' c' wr.heap.size cur hl HB2.out _ hr (Nat.le_refl _)).mono ?_
      rintro e w2 ⟨A2, c2, rfl, hr2, _, hb2⟩
      go_wp2_with fail
      have hul := upL_length cur
      go_roundw
      case rel => exact ⟨A2, c2, upL cur, rfl, by omega, hr2, Lib.hid (by rw [hul]; exact (leavesOk_half _ HK2.out (by omega)).1), Lib.hid (upL_lt cur), Lib.hid (by rw [← HR2.out]; exact (rootN_step cur h1 (by omega)).symm), grew_trans hb1 hb2⟩
      case measure => simp [lenOf]; omega
    · obtain ⟨x, rfl⟩ : ∃ x, cur = [x] := by
        match cur, h1, hle with
        | [x], _, _ => exact ⟨x, rfl⟩
        | x :: y :: l, h1, _ => exact absurd (by simp) h1
      obtain ⟨ad, rfl, hbl, hc⟩ := rd_u64_0 hr
      have HX := Lib.hid (show rootN l = x by rw [← HR2.out, rootN_one])
      go_wp2_with fail
      go_ret2
      exact ⟨by rw [HX.out]; rfl, hb1⟩
theorem refroot_no (A : Option Addr) (c : Nat) (l : List Nat) (hl : l.length ≤ 1048576) (hk : leavesOk l.length = false) (w : World) :
    Calls Try.prog 32 #[.slice A l.length c] w fun e w' => e = .returned (.tuple #[.int .u64 0, .int .i64 1]) ∧ w = w' := by
  have C := Lib.hid (fun W => leaves_any l.length (by omega) W)
  rw [hk] at C
  go_enter Try.func32, Try.ntmps32
  go_wp2_with fail
  refine (C.out _).mono ?_
  rintro e w' ⟨rfl, rfl⟩
  go_wp2_with fail
  go_ret2
  exact ⟨rfl, rfl⟩
theorem refroot_ok (A : Option Addr) (c B : Nat) (l : List Nat) (hl : l.length ≤ 1048576) (hk : leavesOk l.length = true) (hb : ∀ n ∈ l, n < 18446744073709551616) (w : World) (hr : Rd w B A (u64L l)) (hB : B ≤ w.heap.size) :
    Calls Try.prog 32 #[.slice A l.length c] w fun e w' => e = .returned (.tuple #[.int .u64 (rootN l : Nat), .int .i64 0]) ∧ Grew w w' := by
  have C := Lib.hid (fun W => leaves_any l.length (by omega) W)
  rw [hk] at C
  have HK := Lib.hid hk
  have HB := Lib.hid hb
  clear hk hb
  go_enter Try.func32, Try.ntmps32
  go_wp2_with fail
  refine (C.out _).mono ?_
  rintro e w' ⟨rfl, rfl⟩
  go_wp2_with fail
  go_loopw [0] (fun v wr => ∃ (A' : Option Addr) (c' : Nat) (cur : List Nat), v = .slice A' cur.length c' ∧ cur.length ≤ 1048576 ∧ Rd wr wr.heap.size A' (u64L cur) ∧ Hid (leavesOk cur.length = true) ∧ Hid (∀ n ∈ cur, n < 18446744073709551616) ∧ Hid (rootN cur = rootN l) ∧ Grew w wr) (fun v _ => lenOf v)
  case atStart => exact ⟨A, c, l, rfl, hl, hr.more hB, HK, HB, Lib.hid rfl, Below.refl _ _⟩
  case round =>
    clear hr hl
    obtain ⟨A', c', cur, rfl, hl, hr, HK2, HB2, HR2, hb1⟩ := hrel
    have hle := leaves_le _ HK2.out
    by_cases h1 : 1 < cur.length
    · have h1' : (1 : Int) < (cur.length : Int) := by omega
      go_wp2_with fail
      refine (up_any A' c' wr.heap.size cur hl HB2.out _ hr (Nat.le_refl _)).mono ?_
      rintro e w2 ⟨A2, c2, rfl, hr2, _, hb2⟩
      go_wp2_with fail
      have hul := upL_length cur
      go_roundw
      case rel => exact ⟨A2, c2, upL cur, rfl, by omega, hr2, Lib.hid (by rw [hul]; exact (leavesOk_half _ HK2.out (by omega)).1), Lib.hid (upL_lt cur), Lib.hid (by rw [← HR2.out]; exact (rootN_step cur h1 (by omega)).symm), grew_trans hb1 hb2⟩
      case measure => simp [lenOf]; omega
    · obtain ⟨x, rfl⟩ : ∃ x, cur = [x] := by
        match cur, h1, hle with
        | [x], _, _ => exact ⟨x, rfl⟩
        | x :: y :: l, h1, _ => exact absurd (by simp) h1
      obtain ⟨ad, rfl, hbl, hc⟩ := rd_u64_0 hr
      have HX := Lib.hid (show rootN l = x by rw [← HR2.out, rootN_one])
      go_wp2_with fail
      go_ret2
      exact ⟨by rw [HX.out]; rfl, hb1⟩
theorem path_no (A : Option Addr) (c : Nat) (l : List Nat) (i : Int) (hi64 : -9223372036854775808 ≤ i ∧ i ≤ 9223372036854775807) (hl : l.length ≤ 1048576) (hk : leavesOk l.length = false ∨ i < 0 ∨ (l.length : Int) ≤ i) (w : World) :
    Calls Try.prog 33 #[.slice A l.length c, .int .i64 i] w fun e w' => e = .returned (.tuple #[.slice none 0 0, .int .i64 1]) ∧ w = w' := by
  have C := Lib.hid (fun W => count_any l.length (by omega) W)
  cases hkk : leavesOk l.length with
  | false =>
    rw [hkk] at C
    go_enter Try.func33, Try.ntmps33
    go_wp2_with fail
    refine (C.out _).mono ?_
    rintro e w' ⟨rfl, rfl⟩
    go_wp2_with fail
    go_ret2
    exact ⟨rfl, rfl⟩
  | true =>
    rw [hkk] at C hk
    have hle := leaves_le _ hkk
    by_cases h0 : i < 0
    · go_enter Try.func33, Try.ntmps33
      go_wp2_with fail
      refine (C.out _).mono ?_
      rintro e w' ⟨rfl, rfl⟩
      go_wp2_with fail
      go_ret2
      exact ⟨rfl, rfl⟩
    · have h1 : (l.length : Int) ≤ i := by
        rcases hk with h | h | h
        · cases h
        · omega
        · exact h
      clear hk
      go_enter Try.func33, Try.ntmps33
      go_wp2_with fail
      refine (C.out _).mono ?_
      rintro e w' ⟨rfl, rfl⟩
      go_wp2_with fail
      go_ret2
      exact ⟨rfl, rfl⟩
theorem refpath_no (A : Option Addr) (c : Nat) (l : List Nat) (i : Int) (hi64 : -9223372036854775808 ≤ i ∧ i ≤ 9223372036854775807) (hl : l.length ≤ 1048576) (hk : leavesOk l.length = false ∨ i < 0 ∨ (l.length : Int) ≤ i) (w : World) :
    Calls Try.prog 34 #[.slice A l.length c, .int .i64 i] w fun e w' => e = .returned (.tuple #[.slice none 0 0, .int .i64 1]) ∧ w = w' := by
  have C := Lib.hid (fun W => leaves_any l.length (by omega) W)
  cases hkk : leavesOk l.length with
  | false =>
    rw [hkk] at C
    go_enter Try.func34, Try.ntmps34
    go_wp2_with fail
    refine (C.out _).mono ?_
    rintro e w' ⟨rfl, rfl⟩
    go_wp2_with fail
    go_ret2
    exact ⟨rfl, rfl⟩
  | true =>
    rw [hkk] at C hk
    have hle := leaves_le _ hkk
    by_cases h0 : i < 0
    · go_enter Try.func34, Try.ntmps34
      go_wp2_with fail
      refine (C.out _).mono ?_
      rintro e w' ⟨rfl, rfl⟩
      go_wp2_with fail
      go_ret2
      exact ⟨rfl, rfl⟩
    · have h1 : (l.length : Int) ≤ i := by
        rcases hk with h | h | h
        · cases h
        · omega
        · exact h
      clear hk
      go_enter Try.func34, Try.ntmps34
      go_wp2_with fail
      refine (C.out _).mono ?_
      rintro e w' ⟨rfl, rfl⟩
      go_wp2_with fail
      go_ret2
      exact ⟨rfl, rfl⟩
end Go.Proofs.Ytlhjkgohojcbpaa
