/- Contracts of package ots and of the reference's one-time signatures. -/
import Derived.Test.YtlhjkgohojcbpaaHash
import Derived.Test.YtlhjkgohojcbpaaArr
namespace Go.Proofs.Ytlhjkgohojcbpaa
open Go.RowKit
set_option linter.unusedVariables false
def tagSk : List UInt8 := [115, 107]
noncomputable def secN (seed leaf : Int) (k : Nat) : Nat := twoN tagSk seed.toNat ((32 * leaf + k) % 18446744073709551616).toNat
theorem secrets_any (seed leaf : Int) (hs : U64 seed) (hl : -9223372036854775808 ≤ leaf ∧ leaf ≤ 9223372036854775807) (w : World) :
    Calls Try.prog 14 #[.int .u64 seed, .int .i64 leaf] w fun e w' => e = .returned (.agg ((List.range 18).map fun k => u64V (secN seed leaf k)).toArray) ∧ Grew w w' := by
  go_enter Try.func14, Try.ntmps14
  go_wp2_with fail
  go_loopw [7] (fun i wr => ∃ k : Nat, k ≤ 18 ∧ i = .int .i64 k ∧ wr = (w.alloc (.cells (List.replicate 18 (u64V 0)).toArray 26)).alloc (.cells (rowF 18 (fun k => u64V (secN seed leaf k)) (u64V 0) k) 26)) (fun i _ => 18 - (intOf i).toNat)
  case atStart => exact ⟨0, Nat.zero_le _, rfl, by rw [rowF_zero]; rfl⟩
  case round =>
    obtain ⟨k, hk, rfl, rfl⟩ := hrel
    by_cases hlt : k < 18
    · have hcell : (rowF 18 (fun k => u64V (secN seed leaf k)) (u64V 0) k)[k]? = some (.int .u64 0) := rowF_at _ _ _ _ hlt
      have hset : (rowF 18 (fun k => u64V (secN seed leaf k)) (u64V 0) k).setIfInBounds k (.int .u64 (secN seed leaf k : Nat)) = rowF 18 (fun k => u64V (secN seed leaf k)) (u64V 0) (k + 1) := rowF_set _ _ _ _ hlt
      have hsz := rowF_size 18 (fun k => u64V (secN seed leaf k)) (u64V 0) k
      go_wp2_with fail
      rw [show IntKind.u64.wrap (IntKind.u64.wrap (32 * IntKind.u64.wrap leaf) + (k : Int)) = (32 * leaf + k) % 18446744073709551616 by simp only [IntKind.wrap_u64]; omega]
      refine (two_any ⟨#[115, 107]⟩ _ _ (by decide) hs ⟨by omega, by omega⟩ _).mono ?_
      rintro e w' ⟨rfl, rfl⟩
      rw [show twoN (⟨#[115, 107]⟩ : ByteArray).data.toList seed.toNat ((32 * leaf + (k : Int)) % 18446744073709551616).toNat = secN seed leaf k from rfl]
      go_wp2_with fail
      go_roundw
      case rel => exact ⟨k + 1, by omega, by go_num, rfl⟩
      case measure => simp [intOf]; omega
    · have hk18 : k = 18 := by omega
      subst hk18
      rw [rowF_full]
      have hsz : ((List.range 18).map fun k => u64V (secN seed leaf k)).toArray.size = 18 := by simp
      have hone := map_one (List.range 18) (fun k => u64V (secN seed leaf k)) (fun _ => rfl)
      generalize hcs : ((List.range 18).map fun k => u64V (secN seed leaf k)).toArray = cs at *
      have HCS := Lib.hid hcs
      clear hcs
      have h0 : ((w.alloc (.cells (List.replicate 18 (u64V 0)).toArray 26)).alloc (.cells cs 26)).heap[w.heap.size]? = some (.cells (List.replicate 18 (u64V 0)).toArray 26 (0, 0)) := heap_alloc2_old _ _ _
      have h1 : ((w.alloc (.cells (List.replicate 18 (u64V 0)).toArray 26)).alloc (.cells cs 26)).heap[w.heap.size + 1]? = some (.cells cs 26 (0, 0)) := heap_alloc2_new _ _ _
      have hb : Grew w ((w.alloc (.cells (List.replicate 18 (u64V 0)).toArray 26)).alloc (.cells cs 26)) := ((Below.refl _ _).alloc (Nat.le_refl _) _).alloc (by simp) _
      generalize (w.alloc (.cells (List.replicate 18 (u64V 0)).toArray 26)).alloc (.cells cs 26) = W at *
      have hinfo : (Try.prog.info? 26).map (·.size) = some cs.size := by rw [hsz]; kernel_rfl
      have hsz0 : ((List.replicate 18 (u64V 0)).toArray).size = cs.size := by simp; omega
      have h2 : (W.setRow w.heap.size cs).heap[w.heap.size]? = some (.cells cs 26 (0, 0)) := setRow_heap _ _ _ _ _ _ h0
      go_wp2_with (first
        | (with_reducible refine wpList_load_row rfl 26 _ rfl (w.heap.size + 1) rfl 26 cs (0, 0) _ h1 Try.underlying26 rfl hinfo ?_)
        | (with_reducible refine wpList_store_row rfl 26 _ _ rfl w.heap.size cs rfl rfl 26 _ h0 hinfo hsz0 hone ?_))
      exact bodyPost_ret (results_cell_row Try.results14 _ _ w.heap.size _ cs (0, 0) _ rfl h2 Try.underlying26 rfl hinfo) rfl ⟨by rw [HCS.out], below_setRow hb (Nat.le_refl _) cs⟩
end Go.Proofs.Ytlhjkgohojcbpaa
