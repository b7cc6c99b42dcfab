/- Contracts of ots.advanced, at its three uses. -/
import Derived.Test.YtlhjkgohojcbpaaOts
import Derived.StillTailTactics
namespace Go.Proofs.Ytlhjkgohojcbpaa
open Go.RowKit
set_option linter.unusedVariables false
def tagOt : List UInt8 := [111, 116]
/-- each on its chain, as far as it is told -/
noncomputable def advF (s d : Nat → Nat) (k : Nat) : Nat := chainI tagOt (s k) (d k : Nat)
theorem adv_pub (cs : Array Value) (s d : Nat → Nat) (w : World) (hcs : cs.size = 18) (hs : ∀ k, k < 18 → cs[k]? = some (.int .u64 (s k : Nat)) ∧ s k < 18446744073709551616) (hd : ∀ k, k < 18 → d k ≤ 15)
    (hf : ∀ k : Nat, k < 18 → ∀ W : World, Grew w W → Calls Try.prog 44 #[.int .i64 k] W fun e w' => e = .returned (.int .i64 (d k : Nat)) ∧ W = w') :
    Calls Try.prog 41 #[.agg cs, .func (.func 44) #[] #[]] w fun e w' => e = .returned (.agg (arrU (advF s d))) ∧ Grew w w' := by
  have hinfo26 : (Try.prog.info? 26).map (·.size) = some 18 := by kernel_rfl
  have hinfo : (Try.prog.info? 25).map (·.size) = some 18 := by kernel_rfl
  have HF := Lib.hid hf
  have HS := Lib.hid hs
  have HD := Lib.hid hd
  have HCS := Lib.hid hcs
  clear hf hs hd hcs
  go_enter Try.func41, Try.ntmps41
  go_wp2_with fail
  have hW0 : Bk (((w.alloc (.cells cs 26)).alloc (.cells (List.replicate 18 (u64V 0)).toArray 25)).alloc (.cells (rowF 18 (fun k => u64V (chainI tagOt (s k) (d k))) (u64V 0) 0) 25)) w.heap.size 26 cs := ((Bk.new _ _ _).alloc _).alloc _
  have hW1 : Bk (((w.alloc (.cells cs 26)).alloc (.cells (List.replicate 18 (u64V 0)).toArray 25)).alloc (.cells (rowF 18 (fun k => u64V (chainI tagOt (s k) (d k))) (u64V 0) 0) 25)) (w.heap.size + 1) 25 (List.replicate 18 (u64V 0)).toArray := by
    have := (Bk.new (w.alloc (.cells cs 26)) 25 (List.replicate 18 (u64V 0)).toArray).alloc (.cells (rowF 18 (fun k => u64V (chainI tagOt (s k) (d k))) (u64V 0) 0) 25)
    simpa using this
  have hW2 : Bk (((w.alloc (.cells cs 26)).alloc (.cells (List.replicate 18 (u64V 0)).toArray 25)).alloc (.cells (rowF 18 (fun k => u64V (chainI tagOt (s k) (d k))) (u64V 0) 0) 25)) (w.heap.size + 1 + 1) 25 (rowF 18 (fun k => u64V (chainI tagOt (s k) (d k))) (u64V 0) 0) := by
    have := Bk.new ((w.alloc (.cells cs 26)).alloc (.cells (List.replicate 18 (u64V 0)).toArray 25)) 25 (rowF 18 (fun k => u64V (chainI tagOt (s k) (d k))) (u64V 0) 0)
    simpa using this
  have hWb : Grew w (((w.alloc (.cells cs 26)).alloc (.cells (List.replicate 18 (u64V 0)).toArray 25)).alloc (.cells (rowF 18 (fun k => u64V (chainI tagOt (s k) (d k))) (u64V 0) 0) 25)) := (((Below.refl _ _).alloc (Nat.le_refl _) _).alloc (by simp) _).alloc (by simp; omega) _
  go_loopw [7] (fun i wr => ∃ k : Nat, k ≤ 18 ∧ i = .int .i64 k ∧ Bk wr w.heap.size 26 cs ∧ Bk wr (w.heap.size + 1) 25 (List.replicate 18 (u64V 0)).toArray ∧ Bk wr (w.heap.size + 1 + 1) 25 (rowF 18 (fun k => u64V (chainI tagOt (s k) (d k))) (u64V 0) k) ∧ Grew w wr) (fun i _ => 18 - (intOf i).toNat)
  case atStart =>
    rw [rowF_zero] at hW0 hW1 hW2 hWb
    exact ⟨0, Nat.zero_le _, rfl, hW0, hW1, by rw [rowF_zero]; exact hW2, hWb⟩
  case round =>
    clear hW0 hW1 hW2 hWb
    obtain ⟨k, hk, rfl, h0, h1, h2, hb⟩ := hrel
    by_cases hlt : k < 18
    · have hsk := HS.out k hlt
      have hcell : wr.cell? ⟨w.heap.size, k, none⟩ = some (.int .u64 (s k : Nat)) := by rw [h0.cell]; exact hsk.1
      have hcell2 : wr.drew.cell? ⟨w.heap.size + 1 + 1, k, none⟩ = some (.int .u64 (0 : Nat)) := by rw [h2.drew.cell]; exact rowF_at _ _ _ _ hlt
      have hfr2 : wr.drew.frozen? ⟨w.heap.size + 1 + 1, k, none⟩ = false := h2.drew.frozen k
      have hk0 : (0 : Int) ≤ (k : Int) := by omega
      have hk1 : (k : Int) < 18 := by omega
      have hdk := HD.out k hlt
      have C1 := Lib.hid ((HF.out k hlt wr.drew hb.drew).mono fun _ _ h => And.intro h.1 h.2.symm)
      have C2 := Lib.hid ((chain_any ⟨#[111, 116]⟩ (s k : Nat) (d k : Nat) (by decide) (u64_nat hsk.2) (by omega) (by omega) wr.drew).mono fun _ _ h => And.intro h.1 h.2.symm)
      rw [show (⟨#[111, 116]⟩ : ByteArray).data.toList = tagOt from rfl, Int.toNat_natCast] at C2
      have hset : (rowF 18 (fun k => u64V (chainI tagOt (s k) (d k))) (u64V 0) k).setIfInBounds k (.int .u64 (chainI tagOt (s k) (d k) : Nat)) = rowF 18 (fun k => u64V (chainI tagOt (s k) (d k))) (u64V 0) (k + 1) := rowF_set _ _ _ _ hlt
      have h2' := h2.drew.set_ k (.int .u64 (chainI tagOt (s k) (d k) : Nat))
      rw [hset] at h2'
      have h0' := h0.drew.far (p := ⟨w.heap.size + 1 + 1, k, none⟩) (by show _ ≠ _; simp only []; omega) (.int .u64 (chainI tagOt (s k) (d k) : Nat))
      have h1' := h1.drew.far (p := ⟨w.heap.size + 1 + 1, k, none⟩) (by show _ ≠ _; simp only []; omega) (.int .u64 (chainI tagOt (s k) (d k) : Nat))
      have hb' := hb.drew.setCell (p := ⟨w.heap.size + 1 + 1, k, none⟩) (by show _ ≤ _; simp only []; omega) (.int .u64 (chainI tagOt (s k) (d k) : Nat))
      generalize chainI tagOt (s k) (d k) = y at *
      clear hset hsk
      go_wp2_with fail
      refine wp_region_still_tail 9 (by kernel_rfl) (by kernel_rfl) ?_
      simp only [List.take_succ_cons, List.take_zero, List.drop_succ_cons, List.drop_zero]
      change wpStill _ _ wr.drew _ _ _
      repeat (first | still_step | still_call (C1.out) | still_call (C2.out))
      refine wpStill_nil ?_
      change wpList _ _ _ _ _ wr.drew
      go_wp2_with fail
      go_roundw
      case rel => exact ⟨k + 1, by omega, by go_num, h0', h1', h2', hb'⟩
      case measure => simp [intOf]; omega
    · obtain rfl : k = 18 := by omega
      rw [rowF_full] at h2
      generalize hcs2 : ((List.range 18).map fun k => u64V (chainI tagOt (s k) (d k))).toArray = cs2 at *
      have hone : cs2.all (·.oneCell') = true := by rw [← hcs2]; exact map_one (List.range 18) (fun k => u64V (chainI tagOt (s k) (d k))) (fun _ => rfl)
      have hsz2 : cs2.size = 18 := by rw [← hcs2]; simp
      have HC2 := Lib.hid hcs2
      clear hcs2
      have hi2 : (Try.prog.info? 25).map (·.size) = some cs2.size := by rw [hsz2]; exact hinfo
      have hsz0 : ((List.replicate 18 (u64V 0)).toArray).size = cs2.size := by simp; omega
      have h3 := h1.row cs2
      unfold Bk at h1 h2 h3
      go_wp2_with (first
        | (with_reducible refine wpList_load_row rfl 25 _ rfl (w.heap.size + 1 + 1) rfl 25 cs2 (0, 0) _ h2 Try.underlying25 rfl hi2 ?_)
        | (with_reducible refine wpList_store_row rfl 25 _ _ rfl (w.heap.size + 1) cs2 rfl rfl 25 _ h1 hi2 hsz0 hone ?_))
      exact bodyPost_ret (results_cell_row Try.results41 _ _ (w.heap.size + 1) _ cs2 (0, 0) _ rfl h3 Try.underlying25 rfl hi2) rfl ⟨by rw [show arrU (advF s d) = cs2 from HC2.out], below_setRow hb (by omega) cs2⟩

theorem adv_sign (cs : Array Value) (s d : Nat → Nat) (g : Nat) (w : World) (hcs : cs.size = 18) (hs : ∀ k, k < 18 → cs[k]? = some (.int .u64 (s k : Nat)) ∧ s k < 18446744073709551616) (hd : ∀ k, k < 18 → d k ≤ 15)
    (hf : ∀ k : Nat, k < 18 → ∀ W : World, Grew w W → Calls Try.prog 42 #[.int .i64 k, .pointer (some ⟨g, 0, none⟩)] W fun e w' => e = .returned (.int .i64 (d k : Nat)) ∧ W = w') :
    Calls Try.prog 41 #[.agg cs, .func (.func 42) #[] #[.pointer (some ⟨g, 0, none⟩)]] w fun e w' => e = .returned (.agg (arrU (advF s d))) ∧ Grew w w' := by
  have hinfo26 : (Try.prog.info? 26).map (·.size) = some 18 := by kernel_rfl
  have hinfo : (Try.prog.info? 25).map (·.size) = some 18 := by kernel_rfl
  have HF := Lib.hid hf
  have HS := Lib.hid hs
  have HD := Lib.hid hd
  have HCS := Lib.hid hcs
  clear hf hs hd hcs
  go_enter Try.func41, Try.ntmps41
  go_wp2_with fail
  have hW0 : Bk (((w.alloc (.cells cs 26)).alloc (.cells (List.replicate 18 (u64V 0)).toArray 25)).alloc (.cells (rowF 18 (fun k => u64V (chainI tagOt (s k) (d k))) (u64V 0) 0) 25)) w.heap.size 26 cs := ((Bk.new _ _ _).alloc _).alloc _
  have hW1 : Bk (((w.alloc (.cells cs 26)).alloc (.cells (List.replicate 18 (u64V 0)).toArray 25)).alloc (.cells (rowF 18 (fun k => u64V (chainI tagOt (s k) (d k))) (u64V 0) 0) 25)) (w.heap.size + 1) 25 (List.replicate 18 (u64V 0)).toArray := by
    have := (Bk.new (w.alloc (.cells cs 26)) 25 (List.replicate 18 (u64V 0)).toArray).alloc (.cells (rowF 18 (fun k => u64V (chainI tagOt (s k) (d k))) (u64V 0) 0) 25)
    simpa using this
  have hW2 : Bk (((w.alloc (.cells cs 26)).alloc (.cells (List.replicate 18 (u64V 0)).toArray 25)).alloc (.cells (rowF 18 (fun k => u64V (chainI tagOt (s k) (d k))) (u64V 0) 0) 25)) (w.heap.size + 1 + 1) 25 (rowF 18 (fun k => u64V (chainI tagOt (s k) (d k))) (u64V 0) 0) := by
    have := Bk.new ((w.alloc (.cells cs 26)).alloc (.cells (List.replicate 18 (u64V 0)).toArray 25)) 25 (rowF 18 (fun k => u64V (chainI tagOt (s k) (d k))) (u64V 0) 0)
    simpa using this
  have hWb : Grew w (((w.alloc (.cells cs 26)).alloc (.cells (List.replicate 18 (u64V 0)).toArray 25)).alloc (.cells (rowF 18 (fun k => u64V (chainI tagOt (s k) (d k))) (u64V 0) 0) 25)) := (((Below.refl _ _).alloc (Nat.le_refl _) _).alloc (by simp) _).alloc (by simp; omega) _
  go_loopw [7] (fun i wr => ∃ k : Nat, k ≤ 18 ∧ i = .int .i64 k ∧ Bk wr w.heap.size 26 cs ∧ Bk wr (w.heap.size + 1) 25 (List.replicate 18 (u64V 0)).toArray ∧ Bk wr (w.heap.size + 1 + 1) 25 (rowF 18 (fun k => u64V (chainI tagOt (s k) (d k))) (u64V 0) k) ∧ Grew w wr) (fun i _ => 18 - (intOf i).toNat)
  case atStart =>
    rw [rowF_zero] at hW0 hW1 hW2 hWb
    exact ⟨0, Nat.zero_le _, rfl, hW0, hW1, by rw [rowF_zero]; exact hW2, hWb⟩
  case round =>
    clear hW0 hW1 hW2 hWb
    obtain ⟨k, hk, rfl, h0, h1, h2, hb⟩ := hrel
    by_cases hlt : k < 18
    · have hsk := HS.out k hlt
      have hcell : wr.cell? ⟨w.heap.size, k, none⟩ = some (.int .u64 (s k : Nat)) := by rw [h0.cell]; exact hsk.1
      have hcell2 : wr.drew.cell? ⟨w.heap.size + 1 + 1, k, none⟩ = some (.int .u64 (0 : Nat)) := by rw [h2.drew.cell]; exact rowF_at _ _ _ _ hlt
      have hfr2 : wr.drew.frozen? ⟨w.heap.size + 1 + 1, k, none⟩ = false := h2.drew.frozen k
      have hk0 : (0 : Int) ≤ (k : Int) := by omega
      have hk1 : (k : Int) < 18 := by omega
      have hdk := HD.out k hlt
      have C1 := Lib.hid ((HF.out k hlt wr.drew hb.drew).mono fun _ _ h => And.intro h.1 h.2.symm)
      have C2 := Lib.hid ((chain_any ⟨#[111, 116]⟩ (s k : Nat) (d k : Nat) (by decide) (u64_nat hsk.2) (by omega) (by omega) wr.drew).mono fun _ _ h => And.intro h.1 h.2.symm)
      rw [show (⟨#[111, 116]⟩ : ByteArray).data.toList = tagOt from rfl, Int.toNat_natCast] at C2
      have hset : (rowF 18 (fun k => u64V (chainI tagOt (s k) (d k))) (u64V 0) k).setIfInBounds k (.int .u64 (chainI tagOt (s k) (d k) : Nat)) = rowF 18 (fun k => u64V (chainI tagOt (s k) (d k))) (u64V 0) (k + 1) := rowF_set _ _ _ _ hlt
      have h2' := h2.drew.set_ k (.int .u64 (chainI tagOt (s k) (d k) : Nat))
      rw [hset] at h2'
      have h0' := h0.drew.far (p := ⟨w.heap.size + 1 + 1, k, none⟩) (by show _ ≠ _; simp only []; omega) (.int .u64 (chainI tagOt (s k) (d k) : Nat))
      have h1' := h1.drew.far (p := ⟨w.heap.size + 1 + 1, k, none⟩) (by show _ ≠ _; simp only []; omega) (.int .u64 (chainI tagOt (s k) (d k) : Nat))
      have hb' := hb.drew.setCell (p := ⟨w.heap.size + 1 + 1, k, none⟩) (by show _ ≤ _; simp only []; omega) (.int .u64 (chainI tagOt (s k) (d k) : Nat))
      generalize chainI tagOt (s k) (d k) = y at *
      clear hset hsk
      go_wp2_with fail
      refine wp_region_still_tail 9 (by kernel_rfl) (by kernel_rfl) ?_
      simp only [List.take_succ_cons, List.take_zero, List.drop_succ_cons, List.drop_zero]
      change wpStill _ _ wr.drew _ _ _
      repeat (first | still_step | still_call (C1.out) | still_call (C2.out))
      refine wpStill_nil ?_
      change wpList _ _ _ _ _ wr.drew
      go_wp2_with fail
      go_roundw
      case rel => exact ⟨k + 1, by omega, by go_num, h0', h1', h2', hb'⟩
      case measure => simp [intOf]; omega
    · obtain rfl : k = 18 := by omega
      rw [rowF_full] at h2
      generalize hcs2 : ((List.range 18).map fun k => u64V (chainI tagOt (s k) (d k))).toArray = cs2 at *
      have hone : cs2.all (·.oneCell') = true := by rw [← hcs2]; exact map_one (List.range 18) (fun k => u64V (chainI tagOt (s k) (d k))) (fun _ => rfl)
      have hsz2 : cs2.size = 18 := by rw [← hcs2]; simp
      have HC2 := Lib.hid hcs2
      clear hcs2
      have hi2 : (Try.prog.info? 25).map (·.size) = some cs2.size := by rw [hsz2]; exact hinfo
      have hsz0 : ((List.replicate 18 (u64V 0)).toArray).size = cs2.size := by simp; omega
      have h3 := h1.row cs2
      unfold Bk at h1 h2 h3
      go_wp2_with (first
        | (with_reducible refine wpList_load_row rfl 25 _ rfl (w.heap.size + 1 + 1) rfl 25 cs2 (0, 0) _ h2 Try.underlying25 rfl hi2 ?_)
        | (with_reducible refine wpList_store_row rfl 25 _ _ rfl (w.heap.size + 1) cs2 rfl rfl 25 _ h1 hi2 hsz0 hone ?_))
      exact bodyPost_ret (results_cell_row Try.results41 _ _ (w.heap.size + 1) _ cs2 (0, 0) _ rfl h3 Try.underlying25 rfl hi2) rfl ⟨by rw [show arrU (advF s d) = cs2 from HC2.out], below_setRow hb (by omega) cs2⟩

theorem adv_rec (cs : Array Value) (s d : Nat → Nat) (g : Nat) (w : World) (hcs : cs.size = 18) (hs : ∀ k, k < 18 → cs[k]? = some (.int .u64 (s k : Nat)) ∧ s k < 18446744073709551616) (hd : ∀ k, k < 18 → d k ≤ 15)
    (hf : ∀ k : Nat, k < 18 → ∀ W : World, Grew w W → Calls Try.prog 48 #[.int .i64 k, .pointer (some ⟨g, 0, none⟩)] W fun e w' => e = .returned (.int .i64 (d k : Nat)) ∧ W = w') :
    Calls Try.prog 58 #[.agg cs, .func (.func 48) #[] #[.pointer (some ⟨g, 0, none⟩)]] w fun e w' => e = .returned (.agg (arrU (advF s d))) ∧ Grew w w' := by
  have hinfo26 : (Try.prog.info? 33).map (·.size) = some 18 := by kernel_rfl
  have hinfo : (Try.prog.info? 25).map (·.size) = some 18 := by kernel_rfl
  have HF := Lib.hid hf
  have HS := Lib.hid hs
  have HD := Lib.hid hd
  have HCS := Lib.hid hcs
  clear hf hs hd hcs
  go_enter Try.func58, Try.ntmps58
  go_wp2_with fail
  have hW0 : Bk (((w.alloc (.cells cs 33)).alloc (.cells (List.replicate 18 (u64V 0)).toArray 25)).alloc (.cells (rowF 18 (fun k => u64V (chainI tagOt (s k) (d k))) (u64V 0) 0) 25)) w.heap.size 33 cs := ((Bk.new _ _ _).alloc _).alloc _
  have hW1 : Bk (((w.alloc (.cells cs 33)).alloc (.cells (List.replicate 18 (u64V 0)).toArray 25)).alloc (.cells (rowF 18 (fun k => u64V (chainI tagOt (s k) (d k))) (u64V 0) 0) 25)) (w.heap.size + 1) 25 (List.replicate 18 (u64V 0)).toArray := by
    have := (Bk.new (w.alloc (.cells cs 33)) 25 (List.replicate 18 (u64V 0)).toArray).alloc (.cells (rowF 18 (fun k => u64V (chainI tagOt (s k) (d k))) (u64V 0) 0) 25)
    simpa using this
  have hW2 : Bk (((w.alloc (.cells cs 33)).alloc (.cells (List.replicate 18 (u64V 0)).toArray 25)).alloc (.cells (rowF 18 (fun k => u64V (chainI tagOt (s k) (d k))) (u64V 0) 0) 25)) (w.heap.size + 1 + 1) 25 (rowF 18 (fun k => u64V (chainI tagOt (s k) (d k))) (u64V 0) 0) := by
    have := Bk.new ((w.alloc (.cells cs 33)).alloc (.cells (List.replicate 18 (u64V 0)).toArray 25)) 25 (rowF 18 (fun k => u64V (chainI tagOt (s k) (d k))) (u64V 0) 0)
    simpa using this
  have hWb : Grew w (((w.alloc (.cells cs 33)).alloc (.cells (List.replicate 18 (u64V 0)).toArray 25)).alloc (.cells (rowF 18 (fun k => u64V (chainI tagOt (s k) (d k))) (u64V 0) 0) 25)) := (((Below.refl _ _).alloc (Nat.le_refl _) _).alloc (by simp) _).alloc (by simp; omega) _
  go_loopw [7] (fun i wr => ∃ k : Nat, k ≤ 18 ∧ i = .int .i64 k ∧ Bk wr w.heap.size 33 cs ∧ Bk wr (w.heap.size + 1) 25 (List.replicate 18 (u64V 0)).toArray ∧ Bk wr (w.heap.size + 1 + 1) 25 (rowF 18 (fun k => u64V (chainI tagOt (s k) (d k))) (u64V 0) k) ∧ Grew w wr) (fun i _ => 18 - (intOf i).toNat)
  case atStart =>
    rw [rowF_zero] at hW0 hW1 hW2 hWb
    exact ⟨0, Nat.zero_le _, rfl, hW0, hW1, by rw [rowF_zero]; exact hW2, hWb⟩
  case round =>
    clear hW0 hW1 hW2 hWb
    obtain ⟨k, hk, rfl, h0, h1, h2, hb⟩ := hrel
    by_cases hlt : k < 18
    · have hsk := HS.out k hlt
      have hcell : wr.cell? ⟨w.heap.size, k, none⟩ = some (.int .u64 (s k : Nat)) := by rw [h0.cell]; exact hsk.1
      have hcell2 : wr.drew.cell? ⟨w.heap.size + 1 + 1, k, none⟩ = some (.int .u64 (0 : Nat)) := by rw [h2.drew.cell]; exact rowF_at _ _ _ _ hlt
      have hfr2 : wr.drew.frozen? ⟨w.heap.size + 1 + 1, k, none⟩ = false := h2.drew.frozen k
      have hk0 : (0 : Int) ≤ (k : Int) := by omega
      have hk1 : (k : Int) < 18 := by omega
      have hdk := HD.out k hlt
      have C1 := Lib.hid ((HF.out k hlt wr.drew hb.drew).mono fun _ _ h => And.intro h.1 h.2.symm)
      have C2 := Lib.hid ((chain_any ⟨#[111, 116]⟩ (s k : Nat) (d k : Nat) (by decide) (u64_nat hsk.2) (by omega) (by omega) wr.drew).mono fun _ _ h => And.intro h.1 h.2.symm)
      rw [show (⟨#[111, 116]⟩ : ByteArray).data.toList = tagOt from rfl, Int.toNat_natCast] at C2
      have hset : (rowF 18 (fun k => u64V (chainI tagOt (s k) (d k))) (u64V 0) k).setIfInBounds k (.int .u64 (chainI tagOt (s k) (d k) : Nat)) = rowF 18 (fun k => u64V (chainI tagOt (s k) (d k))) (u64V 0) (k + 1) := rowF_set _ _ _ _ hlt
      have h2' := h2.drew.set_ k (.int .u64 (chainI tagOt (s k) (d k) : Nat))
      rw [hset] at h2'
      have h0' := h0.drew.far (p := ⟨w.heap.size + 1 + 1, k, none⟩) (by show _ ≠ _; simp only []; omega) (.int .u64 (chainI tagOt (s k) (d k) : Nat))
      have h1' := h1.drew.far (p := ⟨w.heap.size + 1 + 1, k, none⟩) (by show _ ≠ _; simp only []; omega) (.int .u64 (chainI tagOt (s k) (d k) : Nat))
      have hb' := hb.drew.setCell (p := ⟨w.heap.size + 1 + 1, k, none⟩) (by show _ ≤ _; simp only []; omega) (.int .u64 (chainI tagOt (s k) (d k) : Nat))
      generalize chainI tagOt (s k) (d k) = y at *
      clear hset hsk
      go_wp2_with fail
      refine wp_region_still_tail 9 (by kernel_rfl) (by kernel_rfl) ?_
      simp only [List.take_succ_cons, List.take_zero, List.drop_succ_cons, List.drop_zero]
      change wpStill _ _ wr.drew _ _ _
      repeat (first | still_step | still_call (C1.out) | still_call (C2.out))
      refine wpStill_nil ?_
      change wpList _ _ _ _ _ wr.drew
      go_wp2_with fail
      go_roundw
      case rel => exact ⟨k + 1, by omega, by go_num, h0', h1', h2', hb'⟩
      case measure => simp [intOf]; omega
    · obtain rfl : k = 18 := by omega
      rw [rowF_full] at h2
      generalize hcs2 : ((List.range 18).map fun k => u64V (chainI tagOt (s k) (d k))).toArray = cs2 at *
      have hone : cs2.all (·.oneCell') = true := by rw [← hcs2]; exact map_one (List.range 18) (fun k => u64V (chainI tagOt (s k) (d k))) (fun _ => rfl)
      have hsz2 : cs2.size = 18 := by rw [← hcs2]; simp
      have HC2 := Lib.hid hcs2
      clear hcs2
      have hi2 : (Try.prog.info? 25).map (·.size) = some cs2.size := by rw [hsz2]; exact hinfo
      have hsz0 : ((List.replicate 18 (u64V 0)).toArray).size = cs2.size := by simp; omega
      have h3 := h1.row cs2
      unfold Bk at h1 h2 h3
      go_wp2_with (first
        | (with_reducible refine wpList_load_row rfl 25 _ rfl (w.heap.size + 1 + 1) rfl 25 cs2 (0, 0) _ h2 Try.underlying25 rfl hi2 ?_)
        | (with_reducible refine wpList_store_row rfl 25 _ _ rfl (w.heap.size + 1) cs2 rfl rfl 25 _ h1 hi2 hsz0 hone ?_))
      exact bodyPost_ret (results_cell_row Try.results58 _ _ (w.heap.size + 1) _ cs2 (0, 0) _ rfl h3 Try.underlying25 rfl hi2) rfl ⟨by rw [show arrU (advF s d) = cs2 from HC2.out], below_setRow hb (by omega) cs2⟩

end Go.Proofs.Ytlhjkgohojcbpaa
