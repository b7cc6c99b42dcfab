/- Contracts of the digits of a digest. -/
import Derived.Test.YtlhjkgohojcbpaaOts
namespace Go.Proofs.Ytlhjkgohojcbpaa
open Go.RowKit
set_option linter.unusedVariables false
/-- digit i of the sixteen, the highest first -/
def digA (d i : Nat) : Nat := d / 16 ^ (15 - i) % 16
def csum (d : Nat) : Nat → Nat
  | 0 => 0
  | k + 1 => csum d k + (15 - digA d k)
def digK (d k : Nat) : Nat := if k < 16 then digA d k else if k = 16 then csum d 16 / 16 else csum d 16 % 16
theorem digA_lt (d i : Nat) : digA d i < 16 := Nat.mod_lt _ (by decide)
theorem csum_le (d k : Nat) : csum d k ≤ 15 * k := by
  induction k with
  | zero => simp [csum]
  | succ k ih => simp only [csum]; omega
theorem digK_le (d k : Nat) : digK d k ≤ 15 := by
  unfold digK
  have h1 := digA_lt d k
  have h2 := csum_le d 16
  split
  · omega
  · split <;> omega
def digF (d : Nat) (k : Nat) : Value := .int .i64 (digK d k : Nat)
theorem shr_dig (d k : Nat) (h : k < 16) : ∃ q : Nat, q = d / 16 ^ (15 - k) ∧ ((d : Int) / 2 ^ (4 * (15 - k))) = (q : Int) := by
  refine ⟨_, rfl, ?_⟩
  have : 16 ^ (15 - k) = 2 ^ (4 * (15 - k)) := by rw [show (16 : Nat) = 2 ^ 4 from rfl, ← Nat.pow_mul]
  rw [this]
  simp
theorem dig_and15 (x : Nat) (hx : x < 18446744073709551616) : bits .and .u64 (x : Int) 15 = ((x % 16 : Nat) : Int) := by
  have h := u64_and_nat x 15 hx (by decide)
  simp only [Int.cast_ofNat_Int] at h
  rw [h, show x &&& 15 = x % 16 from Nat.and_two_pow_sub_one_eq_mod x 4]
theorem sum_and15 (S : Nat) (h : S ≤ 240) : bits .and .i64 (S : Int) 15 = (S : Int) % 16 := by
  have : ∀ S : Fin 241, bits .and .i64 (S.val : Int) 15 = (S.val : Int) % 16 := by decide +kernel
  exact this ⟨S, by omega⟩
theorem map_digF_one (d : Nat) : (((List.range 18).map (digF d)).toArray).all (·.oneCell') = true := map_one _ _ (fun _ => rfl)
set_option maxRecDepth 20000 in
theorem digits_any (d : Int) (hd : U64 d) (w : World) :
    Calls Try.prog 16 #[.int .u64 d] w fun e w' => e = .returned (.agg ((List.range 18).map (digF d.toNat)).toArray) ∧ Grew w w' := by
  obtain ⟨hd0, hd1⟩ := hd
  obtain ⟨d, rfl⟩ := Int.eq_ofNat_of_zero_le hd0
  have hdb : d < 18446744073709551616 := by omega
  clear hd0 hd1
  rw [Int.toNat_natCast]
  go_enter Try.func16, Try.ntmps16
  go_wp2_with fail
  go_loopw [4, 6] (fun v i wr => ∃ k : Nat, k ≤ 16 ∧ i = .int .i64 k ∧ v = .int .i64 (csum d k : Nat) ∧ wr = (w.alloc (.cells (List.replicate 18 (.int .i64 0)).toArray 30)).alloc (.cells (rowF 18 (digF d) (.int .i64 0) k) 30)) (fun _ i _ => 16 - (intOf i).toNat)
  case atStart => exact ⟨0, Nat.zero_le _, rfl, rfl, by rw [rowF_zero]; rfl⟩
  case round =>
    obtain ⟨k, hk, rfl, rfl, rfl⟩ := hrel
    by_cases hlt : k < 16
    · obtain ⟨q, hq, hsh⟩ := shr_dig d k hlt
      have hqb : q < 18446744073709551616 := by rw [hq]; exact Nat.lt_of_le_of_lt (Nat.div_le_self _ _) hdb
      have hfk : digF d k = .int .i64 ((q % 16 : Nat) : Int) := by
        simp only [digF, digK]; rw [if_pos hlt, digA, hq]
      have ha := dig_and15 q hqb
      have hm : q % 16 < 16 := Nat.mod_lt _ (by decide)
      have hcs : csum d (k + 1) = csum d k + (15 - q % 16) := by simp only [csum, digA, hq]
      have hcl := csum_le d k
      have hcell : (rowF 18 (digF d) (.int .i64 0) k)[k]? = some (.int .i64 0) := rowF_at _ _ _ _ (by omega)
      have hset := rowF_set 18 (digF d) (.int .i64 0) k (by omega)
      have hcell2 := rowF_done 18 (digF d) (.int .i64 0) (k + 1) k (by omega) (by omega)
      rw [hfk] at hset hcell2
      have hsz := rowF_size 18 (digF d) (.int .i64 0) k
      have hsz2 := rowF_size 18 (digF d) (.int .i64 0) (k + 1)
      have HC := Lib.hid hcs
      clear hq hfk hcs
      generalize q % 16 = m at *
      go_wp2_with fail
      go_roundw
      case rel => exact ⟨k + 1, by omega, by go_num, by rw [HC.out]; congr 1; omega, rfl⟩
      case measure => simp [intOf]; omega
    · have HK := Lib.hid (show k = 16 by omega)
      have hcl := csum_le d 16
      have hzz : ((List.replicate 18 (Value.int .i64 0)).toArray).size = 18 := by simp
      generalize (List.replicate 18 (Value.int .i64 0)).toArray = z0 at *
      have hs16 : (rowF 18 (digF d) (.int .i64 0) k).setIfInBounds 16 (.int .i64 ((csum d 16 : Nat) / 16)) = rowF 18 (digF d) (.int .i64 0) 17 := by
        rw [HK.out]
        have := rowF_set 18 (digF d) (.int .i64 0) 16 (by omega)
        have hv : digF d 16 = .int .i64 ((csum d 16 : Nat) / 16) := by simp [digF, digK]
        rw [hv] at this
        exact this
      have hs17 : (rowF 18 (digF d) (.int .i64 0) 17).setIfInBounds 17 (.int .i64 ((csum d 16 : Nat) % 16)) = ((List.range 18).map (digF d)).toArray := by
        have := rowF_set 18 (digF d) (.int .i64 0) 17 (by omega)
        have hv : digF d 17 = .int .i64 ((csum d 16 : Nat) % 16) := by simp [digF, digK]
        rw [hv, rowF_full] at this
        exact this
      have hc16 : (rowF 18 (digF d) (.int .i64 0) k)[16]? = some (.int .i64 0) := by rw [HK.out]; exact rowF_at _ _ _ _ (by omega)
      have hc17 : (rowF 18 (digF d) (.int .i64 0) 17)[17]? = some (.int .i64 0) := rowF_at _ _ _ _ (by omega)
      have hand := sum_and15 (csum d 16) (by omega)
      have hcsk : csum d k = csum d 16 := by rw [HK.out]
      rw [hcsk]
      clear hcsk
      have hone := map_digF_one d
      have hsz0 := rowF_size 18 (digF d) (.int .i64 0) k
      have hsz1 := rowF_size 18 (digF d) (.int .i64 0) 17
      have hszf : (((List.range 18).map (digF d)).toArray).size = 18 := by simp
      generalize hcs : ((List.range 18).map (digF d)).toArray = cs at *
      have HCS := Lib.hid hcs
      clear hcs
      generalize rowF 18 (digF d) (.int .i64 0) k = r0 at *
      generalize rowF 18 (digF d) (.int .i64 0) 17 = r1 at *
      generalize csum d 16 = S at *
      have hinfo : (Try.prog.info? 30).map (·.size) = some cs.size := by rw [hszf]; kernel_rfl
      have g1 : ((w.alloc (.cells z0 30)).alloc (.cells cs 30)).heap[w.heap.size + 1]? = some (.cells cs 30 (0, 0)) := heap_alloc2_new _ _ _
      have g0 : ((w.alloc (.cells z0 30)).alloc (.cells cs 30)).heap[w.heap.size]? = some (.cells z0 30 (0, 0)) := heap_alloc2_old _ _ _
      have hbz : Grew w ((w.alloc (.cells z0 30)).alloc (.cells cs 30)) := ((Below.refl _ _).alloc (Nat.le_refl _) _).alloc (by simp) _
      have hz0 : z0.size = cs.size := by omega
      have g2 := Bk.row (show Bk _ _ _ _ from g0) cs
      unfold Bk at g2
      go_wp2_with (first
        | (with_reducible refine wpList_load_row rfl 30 _ rfl (w.heap.size + 1) rfl 30 cs (0, 0) _ g1 Try.underlying30 rfl hinfo ?_)
        | (with_reducible refine wpList_store_row rfl 30 _ _ rfl w.heap.size cs rfl rfl 30 _ g0 hinfo hz0 hone ?_))
      exact bodyPost_ret (results_cell_row Try.results16 _ _ w.heap.size _ cs (0, 0) _ rfl g2 Try.underlying30 rfl hinfo) rfl ⟨by rw [HCS.out], below_setRow hbz (Nat.le_refl _) cs⟩
theorem shr_rdig (d k : Nat) (h : k < 16) : ∃ q : Nat, q = d / 16 ^ (15 - k) ∧ ((d : Int) / 2 ^ (60 - 4 * k)) = (q : Int) := by
  obtain ⟨q, h1, h2⟩ := shr_dig d k h
  exact ⟨q, h1, by rw [show 60 - 4 * k = 4 * (15 - k) by omega]; exact h2⟩
set_option maxRecDepth 20000 in
theorem rdigits_any (d : Int) (hd : U64 d) (w : World) :
    Calls Try.prog 17 #[.int .u64 d] w fun e w' => e = .returned (.agg ((List.range 18).map (digF d.toNat)).toArray) ∧ Grew w w' := by
  obtain ⟨hd0, hd1⟩ := hd
  obtain ⟨d, rfl⟩ := Int.eq_ofNat_of_zero_le hd0
  have hdb : d < 18446744073709551616 := by omega
  clear hd0 hd1
  rw [Int.toNat_natCast]
  go_enter Try.func17, Try.ntmps17
  go_wp2_with fail
  go_loopw [4, 5] (fun v i wr => ∃ k : Nat, k ≤ 16 ∧ i = .int .i64 k ∧ v = .int .i64 (csum d k : Nat) ∧ wr = (w.alloc (.cells (List.replicate 18 (.int .i64 0)).toArray 30)).alloc (.cells (rowF 18 (digF d) (.int .i64 0) k) 30)) (fun _ i _ => 16 - (intOf i).toNat)
  case atStart => exact ⟨0, Nat.zero_le _, rfl, rfl, by rw [rowF_zero]; rfl⟩
  case round =>
    obtain ⟨k, hk, rfl, rfl, rfl⟩ := hrel
    by_cases hlt : k < 16
    · obtain ⟨q, hq, hsh⟩ := shr_rdig d k hlt
      have hqb : q < 18446744073709551616 := by rw [hq]; exact Nat.lt_of_le_of_lt (Nat.div_le_self _ _) hdb
      have hfk : digF d k = .int .i64 ((q % 16 : Nat) : Int) := by
        simp only [digF, digK]; rw [if_pos hlt, digA, hq]
      have ha := dig_and15 q hqb
      have hm : q % 16 < 16 := Nat.mod_lt _ (by decide)
      have hcs : csum d (k + 1) = csum d k + (15 - q % 16) := by simp only [csum, digA, hq]
      have hcl := csum_le d k
      have hcell : (rowF 18 (digF d) (.int .i64 0) k)[k]? = some (.int .i64 0) := rowF_at _ _ _ _ (by omega)
      have hset := rowF_set 18 (digF d) (.int .i64 0) k (by omega)
      have hcell2 := rowF_done 18 (digF d) (.int .i64 0) (k + 1) k (by omega) (by omega)
      rw [hfk] at hset hcell2
      have hsz := rowF_size 18 (digF d) (.int .i64 0) k
      have hsz2 := rowF_size 18 (digF d) (.int .i64 0) (k + 1)
      have HC := Lib.hid hcs
      clear hq hfk hcs
      generalize q % 16 = m at *
      go_wp2_with fail
      go_roundw
      case rel => exact ⟨k + 1, by omega, by go_num, by rw [HC.out]; congr 1; omega, rfl⟩
      case measure => simp [intOf]; omega
    · have HK := Lib.hid (show k = 16 by omega)
      have hcl := csum_le d 16
      have hzz : ((List.replicate 18 (Value.int .i64 0)).toArray).size = 18 := by simp
      generalize (List.replicate 18 (Value.int .i64 0)).toArray = z0 at *
      have hs16 : (rowF 18 (digF d) (.int .i64 0) k).setIfInBounds 16 (.int .i64 ((csum d 16 : Nat) / 16)) = rowF 18 (digF d) (.int .i64 0) 17 := by
        rw [HK.out]
        have := rowF_set 18 (digF d) (.int .i64 0) 16 (by omega)
        have hv : digF d 16 = .int .i64 ((csum d 16 : Nat) / 16) := by simp [digF, digK]
        rw [hv] at this
        exact this
      have hs17 : (rowF 18 (digF d) (.int .i64 0) 17).setIfInBounds 17 (.int .i64 ((csum d 16 : Nat) % 16)) = ((List.range 18).map (digF d)).toArray := by
        have := rowF_set 18 (digF d) (.int .i64 0) 17 (by omega)
        have hv : digF d 17 = .int .i64 ((csum d 16 : Nat) % 16) := by simp [digF, digK]
        rw [hv, rowF_full] at this
        exact this
      have hc16 : (rowF 18 (digF d) (.int .i64 0) k)[16]? = some (.int .i64 0) := by rw [HK.out]; exact rowF_at _ _ _ _ (by omega)
      have hc17 : (rowF 18 (digF d) (.int .i64 0) 17)[17]? = some (.int .i64 0) := rowF_at _ _ _ _ (by omega)
      have hand := sum_and15 (csum d 16) (by omega)
      have hcsk : csum d k = csum d 16 := by rw [HK.out]
      rw [hcsk]
      clear hcsk
      have hone := map_digF_one d
      have hsz0 := rowF_size 18 (digF d) (.int .i64 0) k
      have hsz1 := rowF_size 18 (digF d) (.int .i64 0) 17
      have hszf : (((List.range 18).map (digF d)).toArray).size = 18 := by simp
      generalize hcs : ((List.range 18).map (digF d)).toArray = cs at *
      have HCS := Lib.hid hcs
      clear hcs
      generalize rowF 18 (digF d) (.int .i64 0) k = r0 at *
      generalize rowF 18 (digF d) (.int .i64 0) 17 = r1 at *
      generalize csum d 16 = S at *
      have hinfo : (Try.prog.info? 30).map (·.size) = some cs.size := by rw [hszf]; kernel_rfl
      have g1 : ((w.alloc (.cells z0 30)).alloc (.cells cs 30)).heap[w.heap.size + 1]? = some (.cells cs 30 (0, 0)) := heap_alloc2_new _ _ _
      have g0 : ((w.alloc (.cells z0 30)).alloc (.cells cs 30)).heap[w.heap.size]? = some (.cells z0 30 (0, 0)) := heap_alloc2_old _ _ _
      have hbz : Grew w ((w.alloc (.cells z0 30)).alloc (.cells cs 30)) := ((Below.refl _ _).alloc (Nat.le_refl _) _).alloc (by simp) _
      have hz0 : z0.size = cs.size := by omega
      have g2 := Bk.row (show Bk _ _ _ _ from g0) cs
      unfold Bk at g2
      go_wp2_with (first
        | (with_reducible refine wpList_load_row rfl 30 _ rfl (w.heap.size + 1) rfl 30 cs (0, 0) _ g1 Try.underlying30 rfl hinfo ?_)
        | (with_reducible refine wpList_store_row rfl 30 _ _ rfl w.heap.size cs rfl rfl 30 _ g0 hinfo hz0 hone ?_))
      exact bodyPost_ret (results_cell_row Try.results17 _ _ w.heap.size _ cs (0, 0) _ rfl g2 Try.underlying30 rfl hinfo) rfl ⟨by rw [HCS.out], below_setRow hbz (Nat.le_refl _) cs⟩
end Go.Proofs.Ytlhjkgohojcbpaa
