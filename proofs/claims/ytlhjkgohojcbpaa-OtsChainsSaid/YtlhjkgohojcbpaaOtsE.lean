/- The statements of layer 3: OtsHolds, OtsLeaves. -/
import Derived.Test.YtlhjkgohojcbpaaOtsL
import Derived.Deep.QuietTactic
import Derived.BigQuiet
import Derived.Deep.RegionWith
namespace Go.Proofs.Ytlhjkgohojcbpaa
open Go.RowKit
set_option linter.unusedVariables false
theorem zs_get (zs : List Int) (k : Nat) (hk : k < zs.length) (hz : ∀ z ∈ zs, 0 ≤ z ∧ z < 18446744073709551616) :
    (zs.map (Value.int .u64))[k]'(by simpa using hk) = .int .u64 ((zs[k]!.toNat : Nat) : Int) := by
  have h := hz zs[k] (List.getElem_mem hk)
  simp [hk]
  omega
theorem zs_lt (zs : List Int) (k : Nat) (hk : k < zs.length) (hz : ∀ z ∈ zs, 0 ≤ z ∧ z < 18446744073709551616) : zs[k]!.toNat < 18446744073709551616 := by
  have h := hz zs[k] (List.getElem_mem hk)
  simp [hk]
  omega
theorem otsHolds_short (A : Option Addr) (c n : Nat) (d : Int) (w : World) (h : n < 18) :
    Calls Try.prog 4 #[.slice A n c, .int .u64 d] w fun e w' => e = .returned (.bool true) ∧ Grew w w' := by
  have hn : (n : Int) < 18 := by omega
  go_enter Try.func4, Try.ntmps4
  go_wp2_with (refine (known_true _).mono ?_; rintro e w1 ⟨rfl, hb1⟩)
  go_ret
  exact ⟨rfl, hb1⟩
theorem otsHolds_law (A : Option Addr) (c : Nat) (zs : List Int) (d : Int) (w : World) (hr : Rd w w.heap.size A (zs.map (Value.int .u64))) (hz : ∀ z ∈ zs, 0 ≤ z ∧ z < 18446744073709551616) (hn : 18 ≤ zs.length) (hm : zs.length ≤ 9223372036854775807) (hd : U64 d) :
    Calls Try.prog 4 #[.slice A zs.length c, .int .u64 d] w fun e w' => e = .returned (.bool true) ∧ Grew w w' := by
  go_enter Try.func4, Try.ntmps4
  go_wp2_with (refine (known_true _).mono ?_; rintro e w1 ⟨rfl, hb1⟩)
  have hn' : ¬ ((zs.length : Int) < 18) := by omega
  have hr1 := hr.below hb1
  have hsz1 := hb1.size
  go_wp2_with fail
  generalize hsd : (fun k : Nat => zs[k]!.toNat) = s
  have HZ := Lib.hid (fun k (h : k < 18) => (zs_get zs k (by omega) hz).trans (show (Value.int .u64 ((zs[k]!.toNat : Nat) : Int)) = .int .u64 ((s k : Nat) : Int) by rw [← hsd]))
  have hs : ∀ k, k < 18 → s k < 18446744073709551616 := fun k h => by rw [← hsd]; exact zs_lt zs k (by omega) hz
  clear hsd
  go_loopw [6] (fun i wr => ∃ k : Nat, k ≤ 18 ∧ i = .int .i64 k ∧ wr = w1.alloc (.cells (rowF 18 (fun k => u64V (s k)) (.int .u64 0) k) 26)) (fun i _ => 18 - (intOf i).toNat)
  case atStart => exact ⟨0, Nat.zero_le _, rfl, by rw [rowF_zero]; rfl⟩
  case round =>
    obtain ⟨k, hk, rfl, rfl⟩ := hrel
    by_cases hlt : k < 18
    · have hcell : (rowF 18 (fun k => u64V (s k)) (.int .u64 0) k)[k]? = some (.int .u64 0) := rowF_at _ _ _ _ hlt
      have hset : (rowF 18 (fun k => u64V (s k)) (.int .u64 0) k).setIfInBounds k (.int .u64 (s k : Nat)) = rowF 18 (fun k => u64V (s k)) (.int .u64 0) (k + 1) := rowF_set _ _ _ _ hlt
      have hsz := rowF_size 18 (fun k => u64V (s k)) (.int .u64 0) k
      obtain ⟨ad, rfl, hbl, hcz⟩ := (hr1.alloc hsz1 (.cells (rowF 18 (fun k => u64V (s k)) (.int .u64 0) k) 26)) k (by simp; omega)
      rw [HZ.out k hlt] at hcz
      have hk2 : (k : Int) < (zs.length : Int) := by omega
      go_wp2_with fail
      go_roundw
      case rel => exact ⟨k + 1, by omega, by go_num, rfl⟩
      case measure => simp [intOf]; omega
    · obtain rfl : k = 18 := by omega
      rw [rowF_full, show ((List.range 18).map fun k => u64V (s k)).toArray = arrU s from rfl]
      have C1 := Lib.hid (fun W => pub_any s W hs)
      have C2 := Lib.hid (fun W => sign_any s d W hs hd)
      have hpl := pubN_lt s
      have C3 := Lib.hid (fun W => verify_any (pubN s : Nat) (signF s d.toNat) d W (u64_nat hpl) (fun k hk => signF_lt _ _ _ (hs k hk)) hd)
      rw [Int.toNat_natCast, rec_sign, decide_eq_true rfl] at C3
      have hsz := arrU_size s
      generalize pubN s = pp at *
      generalize arrU (signF s d.toNat) = gs at *
      generalize arrU s = ss at *
      have i0 : (Try.prog.info? 26).map (·.size) = some ss.size := by rw [hsz]; kernel_rfl
      have k0 := Bk.new w1 26 ss
      have hb2 : Grew w (w1.alloc (.cells ss 26)) := grew_alloc hb1 _
      generalize w1.heap.size = n0 at *
      generalize w1.alloc (.cells ss 26) = w4 at *
      have L0 : ∀ W : World, (∃ x : Gr w4, W = x.val) → W.heap[n0]? = some (.cells ss 26 (0, 0)) := by rintro _ ⟨x, rfl⟩; exact k0.grew x.ok
      have L0 := Lib.hid L0
      clear k0 hr hr1 HZ
      go_wp2_with fail
      refine wp_region_grew (grew_refl _) (by kernel_rfl) (by kernel_rfl) ?_
      repeat (first
        | (go_big_quiet_want; refine quiet_load_row 26 (.tmp 5) rfl n0 rfl 26 ss (0, 0) _ L0.out Try.underlying26 rfl i0 ?_; simp only [Act.put, List.setIfInBounds_toArray, List.set_cons_succ, List.set_cons_zero]; go_big_quiet_on)
        | (go_big_quiet_step (first
          | (go_at_call 20; exact callG (C1.out _))
          | (go_at_call 18; exact callG (C2.out _))
          | (go_at_call 25; exact callG (C3.out _)))))
      refine wpQuiet_nil ?_
      rintro _ ⟨⟨w5, hb7⟩, rfl⟩
      go_wp2
      go_ret
      exact ⟨rfl, grew_trans hb2 hb7⟩
theorem otsLeaves_law (seed a b : Int) (w : World) (hs : U64 seed) (ha : 0 ≤ a ∧ a ≤ 255) (hb : 0 ≤ b ∧ b ≤ 255) :
    Calls Try.prog 8 #[.int .u64 seed, .int .u8 a, .int .u8 b] w fun e w' => e = .returned (.bool true) ∧ Grew w w' := by
  have C1 := Lib.hid (fun W => secrets_any seed a hs ⟨by omega, by omega⟩ W)
  have C2 := Lib.hid (fun W => secrets_any seed b hs ⟨by omega, by omega⟩ W)
  rw [show ((List.range 18).map fun k => u64V (secN seed a k)).toArray = arrU (secN seed a) from rfl] at C1
  rw [show ((List.range 18).map fun k => u64V (secN seed b k)).toArray = arrU (secN seed b) from rfl] at C2
  have G1 := Lib.hid (fun k hk => arrU_get (secN seed a) k hk)
  have G2 := Lib.hid (fun k hk => arrU_get (secN seed b) k hk)
  have hsz1 := arrU_size (secN seed a)
  have hsz2 := arrU_size (secN seed b)
  have hon1 := arrU_one (secN seed a)
  have hon2 := arrU_one (secN seed b)
  generalize arrU (secN seed a) = xs at *
  generalize arrU (secN seed b) = ys at *
  have i1 : (Try.prog.info? 26).map (·.size) = some xs.size := by rw [hsz1]; kernel_rfl
  have i2 : (Try.prog.info? 26).map (·.size) = some ys.size := by rw [hsz2]; kernel_rfl
  have z1 : ((List.replicate 18 (Value.int .u64 0)).toArray).size = xs.size := by rw [hsz1]; rfl
  have z2 : ((List.replicate 18 (Value.int .u64 0)).toArray).size = ys.size := by rw [hsz2]; rfl
  have st1 := Lib.hid (fun W : World => run_storeCells_new (P := Try.prog) W 26 (List.replicate 18 (Value.int .u64 0)).toArray xs i1 z1 hon1)
  have st2 := Lib.hid (fun W : World => run_storeCells_new (P := Try.prog) W 26 (List.replicate 18 (Value.int .u64 0)).toArray ys i2 z2 hon2)
  simp only [List.replicate_succ, List.replicate_zero] at st1 st2
  go_enter Try.func8, Try.ntmps8
  go_wp2_with (refine (known_true _).mono ?_; rintro e w1 ⟨rfl, hb1⟩)
  go_wp2_with fail
  refine (C1.out _).mono ?_
  rintro e w2 ⟨rfl, hb2⟩
  go_wp2_with fail
  refine (C2.out _).mono ?_
  rintro e w3 ⟨rfl, hb3⟩
  have h0 : ((w3.alloc (.cells (List.replicate 18 (Value.int .u64 0)).toArray 26)).alloc (.cells (List.replicate 18 (Value.int .u64 0)).toArray 26)).heap[w3.heap.size]? = some (.cells (List.replicate 18 (Value.int .u64 0)).toArray 26 (0, 0)) := heap_alloc2_old _ _ _
  have h1 : ((w3.alloc (.cells (List.replicate 18 (Value.int .u64 0)).toArray 26)).alloc (.cells (List.replicate 18 (Value.int .u64 0)).toArray 26)).heap[w3.heap.size + 1]? = some (.cells (List.replicate 18 (Value.int .u64 0)).toArray 26 (0, 0)) := heap_alloc2_new _ _ _
  have hb4 : Grew w ((w3.alloc (.cells (List.replicate 18 (Value.int .u64 0)).toArray 26)).alloc (.cells (List.replicate 18 (Value.int .u64 0)).toArray 26)) := grew_alloc (grew_alloc (grew_trans (grew_trans hb1 hb2) hb3) _) _
  have hle : w.heap.size ≤ w3.heap.size := (grew_trans (grew_trans hb1 hb2) hb3).size
  simp only [List.replicate_succ, List.replicate_zero] at h0 h1 hb4 z1 z2
  generalize hZ : (#[Value.int .u64 0, Value.int .u64 0, Value.int .u64 0, Value.int .u64 0, Value.int .u64 0, Value.int .u64 0, Value.int .u64 0, Value.int .u64 0, Value.int .u64 0, Value.int .u64 0, Value.int .u64 0, Value.int .u64 0, Value.int .u64 0, Value.int .u64 0, Value.int .u64 0, Value.int .u64 0, Value.int .u64 0, Value.int .u64 0] : Array Value) = Z at h0 h1 hb4 z1 z2
  have HW := Lib.hid (Eq.refl ((w3.alloc (.cells Z 26)).alloc (.cells Z 26)))
  generalize hV : (w3.alloc (.cells Z 26)).alloc (.cells Z 26) = V at h0 h1 hb4
  have HV := Lib.hid hV
  have HZ := Lib.hid hZ
  clear hV hZ HW
  have h2 := Bk.row (show Bk _ _ _ _ from h0) xs
  have h3 := Bk.rowFar (show Bk _ _ _ _ from h1) (show w3.heap.size + 1 ≠ w3.heap.size by omega) xs
  have h4 := Bk.rowFar h2 (show w3.heap.size ≠ w3.heap.size + 1 by omega) ys
  have h5 := Bk.row h3 ys
  have hb5 : Grew w ((V.setRow w3.heap.size xs).setRow (w3.heap.size + 1) ys) := below_setRow (below_setRow hb4 hle xs) (by omega) ys
  unfold Bk at h2 h3
  clear st1 st2
  go_wp2_with (first
    | (with_reducible refine wpList_store_row rfl 26 _ _ rfl w3.heap.size xs rfl rfl 26 _ h0 i1 z1 hon1 ?_)
    | (with_reducible refine wpList_store_row rfl 26 _ _ rfl (w3.heap.size + 1) ys rfl rfl 26 _ h3 i2 z2 hon2 ?_)
    | (rw [HZ.out, HV.out]))
  have hb5' := hb5
  generalize (V.setRow w3.heap.size xs).setRow (w3.heap.size + 1) ys = w4 at *
  clear h0 h1 h2 h3 hb4 HZ HV z1 z2 i1 i2
  obtain ⟨a, rfl⟩ := Int.eq_ofNat_of_zero_le ha.1
  obtain ⟨b, rfl⟩ := Int.eq_ofNat_of_zero_le hb.1
  go_loopw [9] (fun i wr => ∃ k : Nat, k ≤ 18 ∧ i = .int .i64 k ∧ Bk wr w3.heap.size 26 xs ∧ Bk wr (w3.heap.size + 1) 26 ys ∧ Grew w wr) (fun i _ => 18 - (intOf i).toNat)
  case atStart => exact ⟨0, Nat.zero_le _, rfl, h4, h5, hb5⟩
  case round =>
    clear h4 h5 hb5 hb5'
    obtain ⟨k, hk, rfl, h4, h5, hb5⟩ := hrel
    by_cases hlt : k < 18
    · have hX := G1.out k hlt
      have hY := G2.out k hlt
      have hXl := secN_lt seed a k
      have hYl := secN_lt seed b k
      have D1 := Lib.hid (fun W => reftwo_any ⟨#[115, 107]⟩ seed ((32 * (a : Int) + (k : Int))) (by decide) hs ⟨by omega, by omega⟩ W)
      have D2 := Lib.hid (fun W => reftwo_any ⟨#[115, 107]⟩ seed ((32 * (b : Int) + (k : Int))) (by decide) hs ⟨by omega, by omega⟩ W)
      rw [show twoN (⟨#[115, 107]⟩ : ByteArray).data.toList seed.toNat (32 * (a : Int) + (k : Int)).toNat = secN seed a k by unfold secN; rw [show (32 * (a : Int) + (k : Int)) % 18446744073709551616 = 32 * (a : Int) + (k : Int) by omega]; rfl] at D1
      rw [show twoN (⟨#[115, 107]⟩ : ByteArray).data.toList seed.toNat (32 * (b : Int) + (k : Int)).toNat = secN seed b k by unfold secN; rw [show (32 * (b : Int) + (k : Int)) % 18446744073709551616 = 32 * (b : Int) + (k : Int) by omega]; rfl] at D2
      have hc1 : ∀ n, (wr.drewN n).cell? ⟨w3.heap.size, k, none⟩ = some (.int .u64 (secN seed a k : Nat)) := fun n => (h4.cell k).trans hX
      have hc2 : ∀ n, (wr.drewN n).cell? ⟨w3.heap.size + 1, k, none⟩ = some (.int .u64 (secN seed b k : Nat)) := fun n => (h5.cell k).trans hY
      clear hX hY
      generalize hx : secN seed a k = X at *
      generalize hy : secN seed b k = Y at *
      by_cases hab : a = b
      · subst hab
        obtain rfl : X = Y := by rw [← hx, ← hy]
        clear hx hy
        go_wp2_with fail
        refine wp_region_quiet_lit (by kernel_rfl) (by kernel_rfl) ?_
        repeat (go_big_quiet_step ((go_at_call 28; exact quietL (D1.out _))))
        refine wpQuiet_nil ?_
        rintro _ ⟨nq, rfl⟩
        go_wp2_with fail
        go_roundw
        case rel => exact ⟨k + 1, by omega, by go_num, h4, h5, grew_drewN hb5 _⟩
        case measure => simp [intOf]; omega
      · have hab2 : ((a : Int) == (b : Int)) = false := by rw [beq_eq_false_iff_ne]; omega
        by_cases hxy : X = Y
        · obtain rfl := hxy
          clear hx hy
          go_wp2_with fail
          refine wp_region_quiet_lit (by kernel_rfl) (by kernel_rfl) ?_
          repeat (go_big_quiet_step (first
            | (go_at_call_of 28 a; exact quietL (D1.out _))
            | (go_at_call_of 28 b; exact quietL (D2.out _))))
          refine wpQuiet_nil ?_
          rintro _ ⟨nq, rfl⟩
          go_wp2_with fail
          go_roundw
          case rel => exact ⟨k + 1, by omega, by go_num, h4, h5, grew_drewN hb5 _⟩
          case measure => simp [intOf]; omega
        · have hxy2 : ((X : Int) == (Y : Int)) = false := by rw [beq_eq_false_iff_ne]; omega
          clear hx hy
          go_wp2_with fail
          refine wp_region_quiet_lit (by kernel_rfl) (by kernel_rfl) ?_
          repeat (go_big_quiet_step (first
            | (go_at_call_of 28 a; exact quietL (D1.out _))
            | (go_at_call_of 28 b; exact quietL (D2.out _))))
          refine wpQuiet_nil ?_
          rintro _ ⟨nq, rfl⟩
          go_wp2_with fail
          go_roundw
          case rel => exact ⟨k + 1, by omega, by go_num, h4, h5, grew_drewN hb5 _⟩
          case measure => simp [intOf]; omega
    · obtain rfl : k = 18 := by omega
      go_wp2_with fail
      go_ret
      exact ⟨rfl, hb5⟩
end Go.Proofs.Ytlhjkgohojcbpaa
