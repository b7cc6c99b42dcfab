/- Contracts of the reference's one-time signatures. -/
import Derived.Test.YtlhjkgohojcbpaaOtsC
namespace Go.Proofs.Ytlhjkgohojcbpaa
open Go.RowKit
set_option linter.unusedVariables false
theorem rsecrets_any (seed leaf : Int) (hs : U64 seed) (hl : -9223372036854775808 ≤ leaf ∧ leaf ≤ 9223372036854775807) (w : World) :
    Calls Try.prog 15 #[.int .u64 seed, .int .i64 leaf] w fun e w' => e = .returned (.agg (arrU (secN seed leaf))) ∧ Grew w w' := by
  go_enter Try.func15, Try.ntmps15
  go_wp2_with fail
  go_loopw [6] (fun i wr => ∃ k : Nat, k ≤ 18 ∧ i = .int .i64 k ∧ wr = (w.alloc (.cells (List.replicate 18 (u64V 0)).toArray 28)).alloc (.cells (rowF 18 (fun k => u64V (secN seed leaf k)) (u64V 0) k) 28)) (fun i _ => 18 - (intOf i).toNat)
  case atStart => exact ⟨0, Nat.zero_le _, rfl, by rw [rowF_zero]; rfl⟩
  case round =>
    obtain ⟨k, hk, rfl, rfl⟩ := hrel
    by_cases hlt : k < 18
    · have hcell : (rowF 18 (fun k => u64V (secN seed leaf k)) (u64V 0) k)[k]? = some (.int .u64 0) := rowF_at _ _ _ _ hlt
      have hset : (rowF 18 (fun k => u64V (secN seed leaf k)) (u64V 0) k).setIfInBounds k (.int .u64 (secN seed leaf k : Nat)) = rowF 18 (fun k => u64V (secN seed leaf k)) (u64V 0) (k + 1) := rowF_set _ _ _ _ hlt
      have hsz := rowF_size 18 (fun k => u64V (secN seed leaf k)) (u64V 0) k
      go_wp2_with fail
      rw [show IntKind.u64.wrap (IntKind.u64.wrap (IntKind.u64.wrap leaf * 32) + (k : Int)) = (32 * leaf + k) % 18446744073709551616 by simp only [IntKind.wrap_u64]; omega]
      refine (reftwo_any ⟨#[115, 107]⟩ _ _ (by decide) hs ⟨by omega, by omega⟩ _).mono ?_
      rintro e w' ⟨rfl, rfl⟩
      rw [show twoN (⟨#[115, 107]⟩ : ByteArray).data.toList seed.toNat ((32 * leaf + (k : Int)) % 18446744073709551616).toNat = secN seed leaf k from rfl]
      go_wp2_with fail
      go_roundw
      case rel => exact ⟨k + 1, by omega, by go_num, rfl⟩
      case measure => simp [intOf]; omega
    · have hk18 : k = 18 := by omega
      subst hk18
      rw [rowF_full]
      have hsz : ((List.range 18).map fun k => u64V (secN seed leaf k)).toArray.size = 18 := by simp
      have hone := map_one (List.range 18) (fun k => u64V (secN seed leaf k)) (fun _ => rfl)
      generalize hcs : ((List.range 18).map fun k => u64V (secN seed leaf k)).toArray = cs at *
      have HCS := Lib.hid hcs
      clear hcs
      have h0 : ((w.alloc (.cells (List.replicate 18 (u64V 0)).toArray 28)).alloc (.cells cs 28)).heap[w.heap.size]? = some (.cells (List.replicate 18 (u64V 0)).toArray 28 (0, 0)) := heap_alloc2_old _ _ _
      have h1 : ((w.alloc (.cells (List.replicate 18 (u64V 0)).toArray 28)).alloc (.cells cs 28)).heap[w.heap.size + 1]? = some (.cells cs 28 (0, 0)) := heap_alloc2_new _ _ _
      have hb : Grew w ((w.alloc (.cells (List.replicate 18 (u64V 0)).toArray 28)).alloc (.cells cs 28)) := ((Below.refl _ _).alloc (Nat.le_refl _) _).alloc (by simp) _
      generalize (w.alloc (.cells (List.replicate 18 (u64V 0)).toArray 28)).alloc (.cells cs 28) = W at *
      have hinfo : (Try.prog.info? 28).map (·.size) = some cs.size := by rw [hsz]; kernel_rfl
      have hsz0 : ((List.replicate 18 (u64V 0)).toArray).size = cs.size := by simp; omega
      have h2 : (W.setRow w.heap.size cs).heap[w.heap.size]? = some (.cells cs 28 (0, 0)) := setRow_heap _ _ _ _ _ _ h0
      go_wp2_with (first
        | (with_reducible refine wpList_load_row rfl 28 _ rfl (w.heap.size + 1) rfl 28 cs (0, 0) _ h1 Try.underlying28 rfl hinfo ?_)
        | (with_reducible refine wpList_store_row rfl 28 _ _ rfl w.heap.size cs rfl rfl 28 _ h0 hinfo hsz0 hone ?_))
      exact bodyPost_ret (results_cell_row Try.results15 _ _ w.heap.size _ cs (0, 0) _ rfl h2 Try.underlying28 rfl hinfo) rfl ⟨by rw [show arrU (secN seed leaf) = cs from HCS.out], below_setRow hb (Nat.le_refl _) cs⟩
theorem rfold_any (s : Nat → Nat) (w : World) (hs : ∀ k, k < 18 → s k < 18446744073709551616) :
    Calls Try.prog 46 #[.agg (arrU s)] w fun e w' => e = .returned (.int .u64 (foldN s 18 : Nat)) ∧ Grew w w' := by
  have hsz := arrU_size s
  have hget := arrU_get s
  have HG := Lib.hid hget
  have HS := Lib.hid hs
  clear hget hs
  have hg : Bk (w.alloc (.cells (arrU s) 28)) w.heap.size 28 (arrU s) := Bk.new _ _ _
  have hb0 : Grew w (w.alloc (.cells (arrU s) 28)) := (Below.refl _ _).alloc (Nat.le_refl _) _
  generalize arrU s = cs at *
  go_enter Try.func46, Try.ntmps46
  go_wp2_with fail
  go_loop [3, 4] (fun p i => ∃ k : Nat, k ≤ 18 ∧ i = .int .i64 k ∧ p = .int .u64 (foldN s k : Nat)) (fun _ i => 18 - (intOf i).toNat)
  case atStart => exact ⟨0, Nat.zero_le _, rfl, rfl⟩
  case round =>
    obtain ⟨k, hk, rfl, rfl⟩ := hrel
    have hfl := foldN_lt s k
    by_cases hlt : k < 18
    · have hcell := (hg.cell k).trans (HG.out k hlt)
      have hsk := HS.out k hlt
      have HN := Lib.hid (foldN_succ s k)
      go_wp2_with (go_at_call 28; refine (reftwo_any ⟨#[112, 107]⟩ _ _ (by decide) (u64_nat hfl) (u64_nat hsk) _).mono ?_; rintro e w' ⟨rfl, rfl⟩)
      go_round
      case rel => exact ⟨k + 1, by omega, by go_num, by rw [HN.out]; rfl⟩
      case measure => simp [intOf]; omega
    · have HK := Lib.hid (show k = 18 by omega)
      go_wp2
      go_ret
      exact ⟨ret_int (by rw [HK.out]), hb0⟩
set_option maxHeartbeats 400000 in
theorem rpub_any (s : Nat → Nat) (w : World) (hs : ∀ k, k < 18 → s k < 18446744073709551616) :
    Calls Try.prog 21 #[.agg (arrU s)] w fun e w' => e = .returned (.int .u64 (pubN s : Nat)) ∧ Grew w w' := by
  have hb0 : Grew w (w.alloc (.cells (mixRow s (advF s fun _ => 15) 0) 28)) := (Below.refl _ _).alloc (Nat.le_refl _) _
  have hg0 : Bk (w.alloc (.cells (mixRow s (advF s fun _ => 15) 0) 28)) w.heap.size 28 (mixRow s (advF s fun _ => 15) 0) := Bk.new _ _ _
  have hz := mixRow_zero s (advF s fun _ => 15)
  rw [← hz]
  have HS := Lib.hid hs
  have C1 := Lib.hid (fun W => rfold_any (advF s fun _ => 15) W (fun k hk => chainI_lt _ _ _ (hs k hk)))
  rw [show foldN (advF s fun _ => 15) 18 = pubN s from rfl] at C1
  have HF := Lib.hid (fun k => show advF s (fun _ => 15) k = chainI tagOt (s k) (15 : Int) from rfl)
  clear hs hz
  generalize (advF s fun _ => 15) = F at *
  generalize pubN s = pp at *
  go_enter Try.func21, Try.ntmps21
  go_wp2_with fail
  go_loopw [3] (fun i wr => ∃ k : Nat, k ≤ 18 ∧ i = .int .i64 k ∧ wr = w.alloc (.cells (mixRow s F k) 28)) (fun i _ => 18 - (intOf i).toNat)
  case atStart => exact ⟨0, Nat.zero_le _, rfl, rfl⟩
  case round =>
    clear hb0 hg0
    obtain ⟨k, hk, rfl, rfl⟩ := hrel
    by_cases hlt : k < 18
    · have hcell := mixRow_at s F k hlt
      have hset := mixRow_set s F k hlt
      have hsz := mixRow_size s F k
      have hsk := HS.out k hlt
      have C := Lib.hid (fun W => refchain_any ⟨#[111, 116]⟩ (s k : Nat) (15 : Int) (by decide) (u64_nat hsk) (by omega) (by omega) W)
      rw [show (⟨#[111, 116]⟩ : ByteArray).data.toList = tagOt from rfl, Int.toNat_natCast, ← HF.out] at C
      generalize F k = y at *
      go_wp2_with fail
      rw [show (mixRow s F k)[k]'(by rw [hsz]; exact hlt) = .int .u64 (s k : Nat) by rw [mixRow_get, if_neg (Nat.lt_irrefl k)]]
      refine (C.out _).mono ?_
      rintro e w' ⟨rfl, rfl⟩
      go_wp2_with fail
      go_roundw
      case rel => exact ⟨k + 1, by omega, by go_num, rfl⟩
      case measure => simp [intOf]; omega
    · obtain rfl : k = 18 := by omega
      rw [mixRow_full]
      have hsz := arrU_size F
      have hi : (Try.prog.info? 28).map (·.size) = some (arrU F).size := by rw [hsz]; kernel_rfl
      have hg : Bk (w.alloc (.cells (arrU F) 28)) w.heap.size 28 (arrU F) := Bk.new _ _ _
      have hb : Grew w (w.alloc (.cells (arrU F) 28)) := (Below.refl _ _).alloc (Nat.le_refl _) _
      unfold Bk at hg
      generalize arrU F = cs at *
      go_wp2_with (first
        | (with_reducible refine wpList_load_row rfl 28 _ rfl w.heap.size rfl 28 cs (0, 0) _ hg Try.underlying28 rfl hi ?_))
      refine (C1.out _).mono ?_
      rintro e w1 ⟨rfl, hb1⟩
      go_wp2_with fail
      go_ret
      exact ⟨rfl, grew_trans hb hb1⟩
theorem rsign_any (s : Nat → Nat) (d : Int) (w : World) (hs : ∀ k, k < 18 → s k < 18446744073709551616) (hd : U64 d) :
    Calls Try.prog 22 #[.agg (arrU s), .int .u64 d] w fun e w' => e = .returned (.agg (arrU (signF s d.toNat))) ∧ Grew w w' := by
  have hds := digArr_size d.toNat
  have hdo := map_digF_one d.toNat
  have hsz := arrU_size s
  have C0 := Lib.hid (fun W => rdigits_any d hd W)
  have hb0 : Grew w ((w.alloc (.cells (arrU s) 28)).alloc (.cells (List.replicate 18 (u64V 0)).toArray 28)) := ((Below.refl _ _).alloc (Nat.le_refl _) _).alloc (by simp) _
  have hg0 : Bk ((w.alloc (.cells (arrU s) 28)).alloc (.cells (List.replicate 18 (u64V 0)).toArray 28)) w.heap.size 28 (arrU s) := (Bk.new _ _ _).alloc _
  have hg1 : Bk ((w.alloc (.cells (arrU s) 28)).alloc (.cells (List.replicate 18 (u64V 0)).toArray 28)) (w.heap.size + 1) 28 (List.replicate 18 (u64V 0)).toArray := by
    have := Bk.new (w.alloc (.cells (arrU s) 28)) 28 (List.replicate 18 (u64V 0)).toArray
    simpa using this
  have HS := Lib.hid hs
  have HD : ∀ k : Nat, k < 18 → (((List.range 18).map (digF d.toNat)).toArray)[k]? = some (.int .i64 (digK d.toNat k : Nat)) := fun k hk => by
    rw [Array.getElem?_eq_getElem (by simpa using hk)]; simp [digF]
  have HD := Lib.hid HD
  clear hs
  rw [show signF s d.toNat = advF s (digK d.toNat) from rfl]
  have hone := arrU_one (advF s (digK d.toNat))
  have hszf := arrU_size (advF s (digK d.toNat))
  have HF := Lib.hid (mixRow_full s (advF s (digK d.toNat)))
  generalize arrU (advF s (digK d.toNat)) = ys at *
  generalize hcs : arrU s = cs at *
  have HC := Lib.hid hcs
  clear hcs
  generalize ((List.range 18).map (digF d.toNat)).toArray = ds at *
  go_enter Try.func22, Try.ntmps22
  go_wp2_with fail
  refine (C0.out _).mono ?_
  rintro e w1 ⟨rfl, hb1⟩
  have k0 : Bk w1 w.heap.size 28 cs := hg0.grew hb1
  have k1 : Bk w1 (w.heap.size + 1) 28 (List.replicate 18 (u64V 0)).toArray := hg1.grew hb1
  have hb2 : Grew w w1 := grew_trans hb0 hb1
  clear hg0 hg1 hb0 hb1
  have j0 := k0.alloc (.cells ds 30)
  have j1 := k1.alloc (.cells ds 30)
  have j2 := Bk.new w1 30 ds
  have hb3 : Grew w (w1.alloc (.cells ds 30)) := grew_alloc hb2 _
  have hid : (Try.prog.info? 30).map (·.size) = some ds.size := by rw [hds]; kernel_rfl
  have hzd : ((List.replicate 18 (Value.int .i64 0)).toArray).size = ds.size := by rw [hds]; rfl
  have hst := run_storeCells_new (P := Try.prog) w1 30 (List.replicate 18 (Value.int .i64 0)).toArray ds hid hzd hdo
  simp only [List.replicate_succ, List.replicate_zero] at hst
  have hle : w.heap.size < w1.heap.size := k0.lt
  go_wp2_with fail
  go_loopw [6] (fun i wr => ∃ k : Nat, k ≤ 18 ∧ i = .int .i64 k ∧ Bk wr w.heap.size 28 (mixRow s (advF s (digK d.toNat)) k) ∧ Bk wr w1.heap.size 30 ds ∧ Bk wr (w.heap.size + 1) 28 (List.replicate 18 (u64V 0)).toArray ∧ Grew w wr) (fun i _ => 18 - (intOf i).toNat)
  case atStart => exact ⟨0, Nat.zero_le _, rfl, by rw [mixRow_zero, HC.out]; exact j0, j2, j1, hb3⟩
  case round =>
    clear j0 j2 hb3 hst hid hzd hb2 k0 j1 k1
    obtain ⟨k, hk, rfl, h0, h2, h1, hb⟩ := hrel
    by_cases hlt : k < 18
    · have hsk := HS.out k hlt
      have hdk := digK_le d.toNat k
      have hcell : wr.cell? ⟨w.heap.size, k, none⟩ = some (.int .u64 (s k : Nat)) := by rw [h0.cell]; exact mixRow_at _ _ _ hlt
      have hcelld : wr.drew.cell? ⟨w.heap.size, k, none⟩ = some (.int .u64 (s k : Nat)) := hcell
      have hcell3 : wr.cell? ⟨w1.heap.size, k, none⟩ = some (.int .i64 (digK d.toNat k : Nat)) := by rw [h2.cell]; exact HD.out k hlt
      have hfr : wr.drew.frozen? ⟨w.heap.size, k, none⟩ = false := h0.drew.frozen k
      have hk0 : (0 : Int) ≤ (k : Int) := by omega
      have hk1 : (k : Int) < 18 := by omega
      have C2 := Lib.hid ((refchain_any ⟨#[111, 116]⟩ (s k : Nat) (digK d.toNat k : Nat) (by decide) (u64_nat hsk) (by omega) (by omega) wr.drew).mono fun _ _ h => And.intro h.1 h.2.symm)
      rw [show (⟨#[111, 116]⟩ : ByteArray).data.toList = tagOt from rfl, Int.toNat_natCast] at C2
      have hset := mixRow_set s (advF s (digK d.toNat)) k hlt
      rw [show (advF s (digK d.toNat)) k = chainI tagOt (s k) ((digK d.toNat k : Nat) : Int) from rfl] at hset
      have h0' := h0.drew.set_ k (.int .u64 (chainI tagOt (s k) ((digK d.toNat k : Nat) : Int) : Nat))
      rw [hset] at h0'
      have hne : w1.heap.size ≠ w.heap.size := by omega
      have h2' := h2.drew.far (p := ⟨w.heap.size, k, none⟩) hne (.int .u64 (chainI tagOt (s k) ((digK d.toNat k : Nat) : Int) : Nat))
      have h1' := h1.drew.far (p := ⟨w.heap.size, k, none⟩) (by show _ ≠ _; simp only []; omega) (.int .u64 (chainI tagOt (s k) ((digK d.toNat k : Nat) : Int) : Nat))
      have hb' := hb.drew.setCell (p := ⟨w.heap.size, k, none⟩) (Nat.le_refl _) (.int .u64 (chainI tagOt (s k) ((digK d.toNat k : Nat) : Int) : Nat))
      generalize chainI tagOt (s k) _ = y at *
      clear hset
      go_wp2_with fail
      refine wp_region_still_tail 8 (by kernel_rfl) (by kernel_rfl) ?_
      simp only [List.take_succ_cons, List.take_zero, List.drop_succ_cons, List.drop_zero]
      change wpStill _ _ wr.drew _ _ _
      repeat (first | still_step | still_call (C2.out))
      refine wpStill_nil ?_
      change wpList _ _ _ _ _ wr.drew
      go_wp2_with fail
      go_roundw
      case rel => exact ⟨k + 1, by omega, by go_num, h0', h2', h1', hb'⟩
      case measure => simp [intOf]; omega
    · obtain rfl : k = 18 := by omega
      rw [HF.out] at h0
      have hiy : (Try.prog.info? 28).map (·.size) = some ys.size := by rw [hszf]; kernel_rfl
      have hzy : ((List.replicate 18 (u64V 0)).toArray).size = ys.size := by rw [hszf]; rfl
      have h3 := h1.row ys
      unfold Bk at h0 h1 h3
      go_wp2_with (first
        | (with_reducible refine wpList_load_row rfl 28 _ rfl w.heap.size rfl 28 ys (0, 0) _ h0 Try.underlying28 rfl hiy ?_)
        | (with_reducible refine wpList_store_row rfl 28 _ _ rfl (w.heap.size + 1) ys rfl rfl 28 _ h1 hiy hzy hone ?_))
      exact bodyPost_ret (results_cell_row Try.results22 _ _ (w.heap.size + 1) _ ys (0, 0) _ rfl h3 Try.underlying28 rfl hiy) rfl ⟨rfl, below_setRow hb (by omega) ys⟩
set_option maxHeartbeats 400000 in
theorem rrecover_any (s : Nat → Nat) (d : Int) (w : World) (hs : ∀ k, k < 18 → s k < 18446744073709551616) (hd : U64 d) :
    Calls Try.prog 24 #[.agg (arrU s), .int .u64 d] w fun e w' => e = .returned (.int .u64 (recN s d.toNat : Nat)) ∧ Grew w w' := by
  have hds := digArr_size d.toNat
  have hdo := map_digF_one d.toNat
  have hsz := arrU_size s
  have C0 := Lib.hid (fun W => rdigits_any d hd W)
  have hb0 : Grew w (w.alloc (.cells (arrU s) 28)) := (Below.refl _ _).alloc (Nat.le_refl _) _
  have hg0 : Bk (w.alloc (.cells (arrU s) 28)) w.heap.size 28 (arrU s) := Bk.new _ _ _
  have HS := Lib.hid hs
  have HD : ∀ k : Nat, k < 18 → (((List.range 18).map (digF d.toNat)).toArray)[k]? = some (.int .i64 (digK d.toNat k : Nat)) := fun k hk => by
    rw [Array.getElem?_eq_getElem (by simpa using hk)]; simp [digF]
  have HD := Lib.hid HD
  clear hs
  have C1 := Lib.hid (fun W => rfold_any (advF s fun k => 15 - digK d.toNat k) W (fun k hk => chainI_lt _ _ _ (HS.out k hk)))
  rw [show foldN (advF s fun k => 15 - digK d.toNat k) 18 = recN s d.toNat from rfl] at C1
  have HF := Lib.hid (fun k => show (advF s fun k => 15 - digK d.toNat k) k = chainI tagOt (s k) ((15 - digK d.toNat k : Nat) : Int) from rfl)
  generalize (advF s fun k => 15 - digK d.toNat k) = F at *
  generalize recN s d.toNat = pp at *
  generalize hcs : arrU s = cs at *
  have HC := Lib.hid hcs
  clear hcs
  generalize ((List.range 18).map (digF d.toNat)).toArray = ds at *
  go_enter Try.func24, Try.ntmps24
  go_wp2_with fail
  refine (C0.out _).mono ?_
  rintro e w1 ⟨rfl, hb1⟩
  have k0 : Bk w1 w.heap.size 28 cs := hg0.grew hb1
  have hb2 : Grew w w1 := grew_trans hb0 hb1
  clear hg0 hb0 hb1
  have j0 := k0.alloc (.cells ds 30)
  have j2 := Bk.new w1 30 ds
  have hb3 : Grew w (w1.alloc (.cells ds 30)) := grew_alloc hb2 _
  have hid : (Try.prog.info? 30).map (·.size) = some ds.size := by rw [hds]; kernel_rfl
  have hzd : ((List.replicate 18 (Value.int .i64 0)).toArray).size = ds.size := by rw [hds]; rfl
  have hst := run_storeCells_new (P := Try.prog) w1 30 (List.replicate 18 (Value.int .i64 0)).toArray ds hid hzd hdo
  simp only [List.replicate_succ, List.replicate_zero] at hst
  have hle : w.heap.size < w1.heap.size := k0.lt
  go_wp2_with fail
  go_loopw [6] (fun i wr => ∃ k : Nat, k ≤ 18 ∧ i = .int .i64 k ∧ Bk wr w.heap.size 28 (mixRow s F k) ∧ Bk wr w1.heap.size 30 ds ∧ Grew w wr) (fun i _ => 18 - (intOf i).toNat)
  case atStart => exact ⟨0, Nat.zero_le _, rfl, by rw [mixRow_zero, HC.out]; exact j0, j2, hb3⟩
  case round =>
    clear j0 j2 hb3 hst hid hzd hb2 k0
    obtain ⟨k, hk, rfl, h0, h2, hb⟩ := hrel
    by_cases hlt : k < 18
    · have hsk := HS.out k hlt
      have hdk := digK_le d.toNat k
      have hcell : wr.cell? ⟨w.heap.size, k, none⟩ = some (.int .u64 (s k : Nat)) := by rw [h0.cell]; exact mixRow_at _ _ _ hlt
      have hcelld : wr.drew.cell? ⟨w.heap.size, k, none⟩ = some (.int .u64 (s k : Nat)) := hcell
      have hcell3 : wr.cell? ⟨w1.heap.size, k, none⟩ = some (.int .i64 (digK d.toNat k : Nat)) := by rw [h2.cell]; exact HD.out k hlt
      have hfr : wr.drew.frozen? ⟨w.heap.size, k, none⟩ = false := h0.drew.frozen k
      have hk0 : (0 : Int) ≤ (k : Int) := by omega
      have hk1 : (k : Int) < 18 := by omega
      have hwr : IntKind.i64.wrap (15 - (digK d.toNat k : Int)) = ((15 - digK d.toNat k : Nat) : Int) := by
        rw [IntKind.wrap_i64]; omega
      have C2 := Lib.hid ((refchain_any ⟨#[111, 116]⟩ (s k : Nat) (IntKind.i64.wrap (15 - (digK d.toNat k : Int))) (by decide) (u64_nat hsk) (by rw [hwr]; omega) (by rw [hwr]; omega) wr.drew).mono fun _ _ h => And.intro h.1 h.2.symm)
      rw [show (⟨#[111, 116]⟩ : ByteArray).data.toList = tagOt from rfl, Int.toNat_natCast, show chainI tagOt (s k) (IntKind.i64.wrap (15 - (digK d.toNat k : Int))) = chainI tagOt (s k) ((15 - digK d.toNat k : Nat) : Int) by rw [hwr]] at C2
      have hset := mixRow_set s F k hlt
      rw [HF.out] at hset
      have h0' := h0.drew.set_ k (.int .u64 (chainI tagOt (s k) ((15 - digK d.toNat k : Nat) : Int) : Nat))
      rw [hset] at h0'
      have hne : w1.heap.size ≠ w.heap.size := by omega
      have h2' := h2.drew.far (p := ⟨w.heap.size, k, none⟩) hne (.int .u64 (chainI tagOt (s k) ((15 - digK d.toNat k : Nat) : Int) : Nat))
      have hb' := hb.drew.setCell (p := ⟨w.heap.size, k, none⟩) (Nat.le_refl _) (.int .u64 (chainI tagOt (s k) ((15 - digK d.toNat k : Nat) : Int) : Nat))
      generalize chainI tagOt (s k) _ = y at *
      clear hset hwr
      go_wp2_with fail
      refine wp_region_still_tail 9 (by kernel_rfl) (by kernel_rfl) ?_
      simp only [List.take_succ_cons, List.take_zero, List.drop_succ_cons, List.drop_zero]
      change wpStill _ _ wr.drew _ _ _
      repeat (first | still_step | still_call (C2.out))
      refine wpStill_nil ?_
      change wpList _ _ _ _ _ wr.drew
      go_wp2_with fail
      go_roundw
      case rel => exact ⟨k + 1, by omega, by go_num, h0', h2', hb'⟩
      case measure => simp [intOf]; omega
    · obtain rfl : k = 18 := by omega
      rw [mixRow_full] at h0
      have hszf := arrU_size F
      generalize arrU F = ys at *
      have hiy : (Try.prog.info? 28).map (·.size) = some ys.size := by rw [hszf]; kernel_rfl
      unfold Bk at h0
      go_wp2_with (first
        | (with_reducible refine wpList_load_row rfl 28 _ rfl w.heap.size rfl 28 ys (0, 0) _ h0 Try.underlying28 rfl hiy ?_))
      refine (C1.out _).mono ?_
      rintro e w2 ⟨rfl, hb4⟩
      go_wp2_with fail
      go_ret
      exact ⟨rfl, grew_trans hb hb4⟩
end Go.Proofs.Ytlhjkgohojcbpaa
