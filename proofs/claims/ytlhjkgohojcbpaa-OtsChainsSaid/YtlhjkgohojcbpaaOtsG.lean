/- The statements of layer 3: OtsSums. -/
import Derived.Test.YtlhjkgohojcbpaaOtsE
namespace Go.Proofs.Ytlhjkgohojcbpaa
open Go.RowKit
set_option linter.unusedVariables false
theorem low_digits (a b n : Nat) (h : ∀ i, i < n → a / 16 ^ i % 16 = b / 16 ^ i % 16) : a % 16 ^ n = b % 16 ^ n := by
  induction n with
  | zero => simp [Nat.mod_one]
  | succ n ih =>
    rw [Nat.mod_pow_succ, Nat.mod_pow_succ, ih fun i hi => h i (by omega), h n (by omega)]
theorem digA_inj (a b : Nat) (ha : a < 18446744073709551616) (hb : b < 18446744073709551616) (h : ∀ i, i < 16 → digA a i = digA b i) : a = b := by
  have := low_digits a b 16 fun i hi => by
    have h2 := h (15 - i) (by omega)
    unfold digA at h2
    rwa [show 15 - (15 - i) = i by omega] at h2
  rwa [Nat.mod_eq_of_lt (by simpa using ha), Nat.mod_eq_of_lt (by simpa using hb)] at this
theorem csum_mono (a b n : Nat) (h : ∀ i, i < n → digA a i ≤ digA b i) : csum b n ≤ csum a n ∧ (csum a n = csum b n → ∀ i, i < n → digA a i = digA b i) := by
  induction n with
  | zero => exact ⟨Nat.le_refl _, fun _ i hi => absurd hi (by omega)⟩
  | succ n ih =>
    obtain ⟨h1, h2⟩ := ih fun i hi => h i (by omega)
    have h3 := h n (by omega)
    have h4 := digA_lt b n
    have h5 : csum a (n + 1) = csum a n + (15 - digA a n) := rfl
    have h6 : csum b (n + 1) = csum b n + (15 - digA b n) := rfl
    refine ⟨by omega, fun he i hi => ?_⟩
    have h7 : csum a n = csum b n := by omega
    by_cases hin : i < n
    · exact h2 h7 i hin
    · obtain rfl : i = n := by omega
      omega
theorem digK_low (d k : Nat) (h : k < 16) : digK d k = digA d k := if_pos h
theorem digK_sum (d : Nat) : 16 * digK d 16 + digK d 17 = csum d 16 := by
  unfold digK
  simp
  omega
def upB (f g : Nat → Nat) : Nat → Bool
  | 0 => false
  | k + 1 => upB f g k || decide (g k < f k)
theorem upB_false (f g : Nat → Nat) (n : Nat) (h : upB f g n = false) : ∀ k, k < n → f k ≤ g k := by
  induction n with
  | zero => intro k hk; omega
  | succ n ih =>
    intro k hk
    simp only [upB, Bool.or_eq_false_iff, decide_eq_false_iff_not] at h
    by_cases hkn : k < n
    · exact ih h.1 k hkn
    · obtain rfl : k = n := by omega
      omega
theorem upB_true (a b : Nat) (ha : a < 18446744073709551616) (hb : b < 18446744073709551616) (hab : a ≠ b) : upB (digK a) (digK b) 18 = true := by
  cases hu : upB (digK a) (digK b) 18 with
  | true => rfl
  | false =>
    exfalso
    have h := upB_false _ _ _ hu
    have hA : ∀ i, i < 16 → digA a i ≤ digA b i := fun i hi => by
      have := h i (by omega)
      rwa [digK_low _ _ hi, digK_low _ _ hi] at this
    obtain ⟨h1, h2⟩ := csum_mono a b 16 hA
    have h3 := h 16 (by omega)
    have h4 := h 17 (by omega)
    have h5 := digK_sum a
    have h6 := digK_sum b
    exact hab (digA_inj a b ha hb (h2 (by omega)))
theorem otsSums_same (a : Int) (w : World) (h : U64 a) :
    Calls Try.prog 5 #[.int .u64 a, .int .u64 a] w fun e w' => e = .returned (.bool true) ∧ Grew w w' := by
  go_enter Try.func5, Try.ntmps5
  go_wp2_with (refine (known_true _).mono ?_; rintro e w1 ⟨rfl, hb1⟩)
  go_ret
  exact ⟨rfl, hb1⟩
set_option maxHeartbeats 1000000 in
theorem otsSums_law (a b : Int) (w : World) (ha : U64 a) (hb : U64 b) (hab : a ≠ b) :
    Calls Try.prog 5 #[.int .u64 a, .int .u64 b] w fun e w' => e = .returned (.bool true) ∧ Grew w w' := by
  have C1 := Lib.hid (fun W => digits_any a ha W)
  have C2 := Lib.hid (fun W => digits_any b hb W)
  obtain ⟨a, rfl⟩ := Int.eq_ofNat_of_zero_le ha.1
  obtain ⟨b, rfl⟩ := Int.eq_ofNat_of_zero_le hb.1
  rw [Int.toNat_natCast] at C1 C2
  have hup := upB_true a b (by have := ha.2; omega) (by have := hb.2; omega) (by omega)
  have hdn := upB_true b a (by have := hb.2; omega) (by have := ha.2; omega) (by omega)
  have G1 : ∀ k : Nat, k < 18 → (((List.range 18).map (digF a)).toArray)[k]? = some (.int .i64 (digK a k : Nat)) := fun k hk => by
    rw [Array.getElem?_eq_getElem (by simpa using hk)]; simp [digF]
  have G2 : ∀ k : Nat, k < 18 → (((List.range 18).map (digF b)).toArray)[k]? = some (.int .i64 (digK b k : Nat)) := fun k hk => by
    rw [Array.getElem?_eq_getElem (by simpa using hk)]; simp [digF]
  have B1 := Lib.hid (digK_le a)
  have B2 := Lib.hid (digK_le b)
  have G1 := Lib.hid G1
  have G2 := Lib.hid G2
  have hsz1 := digArr_size a
  have hsz2 := digArr_size b
  have hon1 := map_digF_one a
  have hon2 := map_digF_one b
  generalize ((List.range 18).map (digF a)).toArray = xs at *
  generalize ((List.range 18).map (digF b)).toArray = ys at *
  have i1 : (Try.prog.info? 30).map (·.size) = some xs.size := by rw [hsz1]; kernel_rfl
  have i2 : (Try.prog.info? 30).map (·.size) = some ys.size := by rw [hsz2]; kernel_rfl
  have z1 : ((List.replicate 18 (Value.int .i64 0)).toArray).size = xs.size := by rw [hsz1]; rfl
  have z2 : ((List.replicate 18 (Value.int .i64 0)).toArray).size = ys.size := by rw [hsz2]; rfl
  generalize digK a = f at *
  generalize digK b = g at *
  have hne : ((a : Int) == (b : Int)) = false := by rw [beq_eq_false_iff_ne]; exact hab
  have HU := Lib.hid hup
  have HD := Lib.hid hdn
  clear hup hdn
  go_enter Try.func5, Try.ntmps5
  go_wp2_with (refine (known_true _).mono ?_; rintro e w1 ⟨rfl, hb1⟩)
  refine (C1.out _).mono ?_
  rintro e w2 ⟨rfl, hb2⟩
  go_wp2_with fail
  refine (C2.out _).mono ?_
  rintro e w3 ⟨rfl, hb3⟩
  have h0 : ((w3.alloc (.cells (List.replicate 18 (Value.int .i64 0)).toArray 30)).alloc (.cells (List.replicate 18 (Value.int .i64 0)).toArray 30)).heap[w3.heap.size]? = some (.cells (List.replicate 18 (Value.int .i64 0)).toArray 30 (0, 0)) := heap_alloc2_old _ _ _
  have h1 : ((w3.alloc (.cells (List.replicate 18 (Value.int .i64 0)).toArray 30)).alloc (.cells (List.replicate 18 (Value.int .i64 0)).toArray 30)).heap[w3.heap.size + 1]? = some (.cells (List.replicate 18 (Value.int .i64 0)).toArray 30 (0, 0)) := heap_alloc2_new _ _ _
  have hb4 : Grew w ((w3.alloc (.cells (List.replicate 18 (Value.int .i64 0)).toArray 30)).alloc (.cells (List.replicate 18 (Value.int .i64 0)).toArray 30)) := grew_alloc (grew_alloc (grew_trans (grew_trans hb1 hb2) hb3) _) _
  have hle : w.heap.size ≤ w3.heap.size := (grew_trans (grew_trans hb1 hb2) hb3).size
  simp only [List.replicate_succ, List.replicate_zero] at h0 h1 hb4 z1 z2
  generalize hZ : (#[Value.int .i64 0, Value.int .i64 0, Value.int .i64 0, Value.int .i64 0, Value.int .i64 0, Value.int .i64 0, Value.int .i64 0, Value.int .i64 0, Value.int .i64 0, Value.int .i64 0, Value.int .i64 0, Value.int .i64 0, Value.int .i64 0, Value.int .i64 0, Value.int .i64 0, Value.int .i64 0, Value.int .i64 0, Value.int .i64 0] : Array Value) = Z at h0 h1 hb4 z1 z2
  generalize hV : (w3.alloc (.cells Z 30)).alloc (.cells Z 30) = V at h0 h1 hb4
  have HV := Lib.hid hV
  have HZ := Lib.hid hZ
  clear hV hZ
  have h2 := Bk.row (show Bk _ _ _ _ from h0) xs
  have h3 := Bk.rowFar (show Bk _ _ _ _ from h1) (show w3.heap.size + 1 ≠ w3.heap.size by omega) xs
  have h4 := Bk.rowFar h2 (show w3.heap.size ≠ w3.heap.size + 1 by omega) ys
  have h5 := Bk.row h3 ys
  have hb5 : Grew w ((V.setRow w3.heap.size xs).setRow (w3.heap.size + 1) ys) := below_setRow (below_setRow hb4 hle xs) (by omega) ys
  unfold Bk at h2 h3
  go_wp2_with (first
    | (with_reducible refine wpList_store_row rfl 30 _ _ rfl w3.heap.size xs rfl rfl 30 _ h0 i1 z1 hon1 ?_)
    | (with_reducible refine wpList_store_row rfl 30 _ _ rfl (w3.heap.size + 1) ys rfl rfl 30 _ h3 i2 z2 hon2 ?_)
    | (rw [HZ.out, HV.out]))
  generalize (V.setRow w3.heap.size xs).setRow (w3.heap.size + 1) ys = w4 at *
  clear h0 h1 h2 h3 hb4 HZ HV z1 z2 i1 i2
  go_loopw [7, 8, 9] (fun u v i wr => ∃ k : Nat, k ≤ 18 ∧ i = .int .i64 k ∧ u = .bool (upB f g k) ∧ v = .bool (upB g f k) ∧ Bk wr w3.heap.size 30 xs ∧ Bk wr (w3.heap.size + 1) 30 ys ∧ Grew w wr) (fun _ _ i _ => 18 - (intOf i).toNat)
  case atStart => exact ⟨0, Nat.zero_le _, rfl, rfl, rfl, h4, h5, hb5⟩
  case round =>
    clear h4 h5 hb5
    obtain ⟨k, hk, rfl, rfl, rfl, h4, h5, hb5⟩ := hrel
    by_cases hlt : k < 18
    · have hc0 : wr.cell? ⟨w3.heap.size, k, none⟩ = some (.int .i64 (f k : Nat)) := (h4.cell k).trans (G1.out k hlt)
      have hc1 : ∀ n, (wr.drewN n).cell? ⟨w3.heap.size, k, none⟩ = some (.int .i64 (f k : Nat)) := fun n => hc0
      have hc2 : ∀ n, (wr.drewN n).cell? ⟨w3.heap.size + 1, k, none⟩ = some (.int .i64 (g k : Nat)) := fun n => (h5.cell k).trans (G2.out k hlt)
      have hx := B1.out k
      have hy := B2.out k
      have NU : upB f g (k + 1) = (upB f g k || decide (g k < f k)) := rfl
      have ND : upB g f (k + 1) = (upB g f k || decide (f k < g k)) := rfl
      have hk0 : (0 : Int) ≤ (k : Int) := by omega
      have hk1 : (k : Int) < 18 := by omega
      clear G1 G2
      generalize f k = x at *
      generalize g k = y at *
      generalize upB f g k = u at *
      generalize upB g f k = v at *
      rcases Nat.lt_trichotomy x y with hxy | hxy | hxy
      · rw [decide_eq_false (show ¬ y < x by omega), Bool.or_false] at NU; rw [decide_eq_true hxy, Bool.or_true] at ND
        have NU := Lib.hid NU
        have ND := Lib.hid ND
        cases u <;> cases v
        all_goals
          go_wp2_with fail
          refine wp_region_quiet_lit (by kernel_rfl) (by kernel_rfl) ?_
          repeat (go_big_quiet_step (fail))
          refine wpQuiet_nil ?_
          rintro _ ⟨nq, rfl⟩
          have hc3 : ∀ n, ((wr.drewN nq).drewN n).cell? ⟨w3.heap.size, k, none⟩ = some (.int .i64 (x : Nat)) := fun n => hc1 n
          have hc4 : ∀ n, ((wr.drewN nq).drewN n).cell? ⟨w3.heap.size + 1, k, none⟩ = some (.int .i64 (y : Nat)) := fun n => hc2 n
          go_wp2_with fail
          refine wp_region_quiet_lit (by kernel_rfl) (by kernel_rfl) ?_
          repeat (go_big_quiet_step (fail))
          refine wpQuiet_nil ?_
          rintro _ ⟨nr, rfl⟩
          go_wp2_with fail
          go_roundw
          case rel => exact ⟨k + 1, by omega, by go_num, (by first | (rw [NU.out]; done) | (rw [NU.out]; congr 1; simp <;> omega)), (by first | (rw [ND.out]; done) | (rw [ND.out]; congr 1; simp <;> omega)), h4, h5, grew_drewN hb5 _⟩
          case measure => simp [intOf]; omega
      · subst hxy; rw [decide_eq_false (Nat.lt_irrefl _), Bool.or_false] at NU ND
        have NU := Lib.hid NU
        have ND := Lib.hid ND
        cases u <;> cases v
        all_goals
          go_wp2_with fail
          refine wp_region_quiet_lit (by kernel_rfl) (by kernel_rfl) ?_
          repeat (go_big_quiet_step (fail))
          refine wpQuiet_nil ?_
          rintro _ ⟨nq, rfl⟩
          have hc3 : ∀ n, ((wr.drewN nq).drewN n).cell? ⟨w3.heap.size, k, none⟩ = some (.int .i64 (x : Nat)) := fun n => hc1 n
          have hc4 : ∀ n, ((wr.drewN nq).drewN n).cell? ⟨w3.heap.size + 1, k, none⟩ = some (.int .i64 (x : Nat)) := fun n => hc2 n
          go_wp2_with fail
          refine wp_region_quiet_lit (by kernel_rfl) (by kernel_rfl) ?_
          repeat (go_big_quiet_step (fail))
          refine wpQuiet_nil ?_
          rintro _ ⟨nr, rfl⟩
          go_wp2_with fail
          go_roundw
          case rel => exact ⟨k + 1, by omega, by go_num, (by first | (rw [NU.out]; done) | (rw [NU.out]; congr 1; simp <;> omega)), (by first | (rw [ND.out]; done) | (rw [ND.out]; congr 1; simp <;> omega)), h4, h5, grew_drewN hb5 _⟩
          case measure => simp [intOf]; omega
      · rw [decide_eq_true hxy, Bool.or_true] at NU; rw [decide_eq_false (show ¬ x < y by omega), Bool.or_false] at ND
        have NU := Lib.hid NU
        have ND := Lib.hid ND
        cases u <;> cases v
        all_goals
          go_wp2_with fail
          refine wp_region_quiet_lit (by kernel_rfl) (by kernel_rfl) ?_
          repeat (go_big_quiet_step (fail))
          refine wpQuiet_nil ?_
          rintro _ ⟨nq, rfl⟩
          have hc3 : ∀ n, ((wr.drewN nq).drewN n).cell? ⟨w3.heap.size, k, none⟩ = some (.int .i64 (x : Nat)) := fun n => hc1 n
          have hc4 : ∀ n, ((wr.drewN nq).drewN n).cell? ⟨w3.heap.size + 1, k, none⟩ = some (.int .i64 (y : Nat)) := fun n => hc2 n
          go_wp2_with fail
          refine wp_region_quiet_lit (by kernel_rfl) (by kernel_rfl) ?_
          repeat (go_big_quiet_step (fail))
          refine wpQuiet_nil ?_
          rintro _ ⟨nr, rfl⟩
          go_wp2_with fail
          go_roundw
          case rel => exact ⟨k + 1, by omega, by go_num, (by first | (rw [NU.out]; done) | (rw [NU.out]; congr 1; simp <;> omega)), (by first | (rw [ND.out]; done) | (rw [ND.out]; congr 1; simp <;> omega)), h4, h5, grew_drewN hb5 _⟩
          case measure => simp [intOf]; omega
    · obtain rfl : k = 18 := by omega
      rw [HU.out, HD.out]
      go_wp2_with fail
      go_ret
      exact ⟨rfl, hb5⟩
end Go.Proofs.Ytlhjkgohojcbpaa
