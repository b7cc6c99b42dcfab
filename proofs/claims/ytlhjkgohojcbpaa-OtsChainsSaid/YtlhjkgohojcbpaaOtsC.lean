/- Contracts of package ots: Pub, Sign, Recover, Verify. -/
import Derived.Test.YtlhjkgohojcbpaaOtsB
namespace Go.Proofs.Ytlhjkgohojcbpaa
open Go.RowKit
set_option linter.unusedVariables false
theorem cloPub (k : Nat) (W : World) : Calls Try.prog 44 #[.int .i64 k] W fun e w' => e = .returned (.int .i64 (15 : Nat)) ∧ W = w' := by
  go_enter Try.func44, Try.ntmps44
  go_wp2
  go_ret
  exact ⟨rfl, rfl⟩
theorem pub_any (s : Nat → Nat) (w : World) (hs : ∀ k, k < 18 → s k < 18446744073709551616) :
    Calls Try.prog 20 #[.agg (arrU s)] w fun e w' => e = .returned (.int .u64 (pubN s : Nat)) ∧ Grew w w' := by
  have hsz := arrU_size s
  have C1 := Lib.hid (fun W => fold_pub s (fun _ => 15) W hs (fun _ _ => Nat.le_refl _) (fun k _ W _ => cloPub k W))
  have hg : Bk (w.alloc (.cells (arrU s) 26)) w.heap.size 26 (arrU s) := Bk.new _ _ _
  have hb0 : Grew w (w.alloc (.cells (arrU s) 26)) := (Below.refl _ _).alloc (Nat.le_refl _) _
  have hi : (Try.prog.info? 26).map (·.size) = some (arrU s).size := by rw [hsz]; kernel_rfl
  unfold Bk at hg
  generalize arrU s = cs at *
  go_enter Try.func20, Try.ntmps20
  go_wp2_with (first
    | (with_reducible refine wpList_load_row rfl 26 _ rfl w.heap.size rfl 26 cs (0, 0) _ hg Try.underlying26 rfl hi ?_))
  refine (C1.out _).mono ?_
  rintro e w1 ⟨rfl, hb1⟩
  go_wp2_with fail
  go_ret
  exact ⟨rfl, grew_trans hb0 hb1⟩
theorem clo_get (fid : Nat) (d : Nat → Nat) : True := trivial
theorem cloSign (g : Nat) (d : Nat) (k : Nat) (hk : k < 18) (W : World) (h : Bk W g 30 ((List.range 18).map (digF d)).toArray) :
    Calls Try.prog 42 #[.int .i64 k, .pointer (some ⟨g, 0, none⟩)] W fun e w' => e = .returned (.int .i64 (digK d k : Nat)) ∧ W = w' := by
  have hcell : W.cell? ⟨g, k, none⟩ = some (.int .i64 (digK d k : Nat)) := by
    rw [h.cell, Array.getElem?_eq_getElem (by simpa using hk)]
    simp [digF]
  have hk0 : (0 : Int) ≤ (k : Int) := by omega
  have hk1 : (k : Int) < 18 := by omega
  go_enter Try.func42, Try.ntmps42
  go_wp2
  go_ret
  exact ⟨rfl, rfl⟩
theorem cloRec (g : Nat) (d : Nat) (k : Nat) (hk : k < 18) (W : World) (h : Bk W g 30 ((List.range 18).map (digF d)).toArray) :
    Calls Try.prog 48 #[.int .i64 k, .pointer (some ⟨g, 0, none⟩)] W fun e w' => e = .returned (.int .i64 (15 - digK d k : Nat)) ∧ W = w' := by
  have hcell : W.cell? ⟨g, k, none⟩ = some (.int .i64 (digK d k : Nat)) := by
    rw [h.cell, Array.getElem?_eq_getElem (by simpa using hk)]
    simp [digF]
  have hk0 : (0 : Int) ≤ (k : Int) := by omega
  have hk1 : (k : Int) < 18 := by omega
  have hd := digK_le d k
  go_enter Try.func48, Try.ntmps48
  go_wp2
  go_ret
  exact ⟨ret_int (by omega), rfl⟩
theorem digArr_size (d : Nat) : (((List.range 18).map (digF d)).toArray).size = 18 := by simp
theorem sign_any (s : Nat → Nat) (d : Int) (w : World) (hs : ∀ k, k < 18 → s k < 18446744073709551616) (hd : U64 d) :
    Calls Try.prog 18 #[.agg (arrU s), .int .u64 d] w fun e w' => e = .returned (.agg (arrU (signF s d.toNat))) ∧ Grew w w' := by
  have hsz := arrU_size s
  have hi : (Try.prog.info? 26).map (·.size) = some (arrU s).size := by rw [hsz]; kernel_rfl
  have C1 := Lib.hid (fun (g : Nat) W (h : Bk W g 30 ((List.range 18).map (digF d.toNat)).toArray) =>
    adv_sign (arrU s) s (digK d.toNat) g W hsz (fun k hk => ⟨arrU_get s k hk, hs k hk⟩) (fun k _ => digK_le _ _) (fun k hk W' hW' => cloSign g d.toNat k hk W' (h.grew hW')))
  have C0 := Lib.hid (fun W => digits_any d hd W)
  have hsz2 := arrU_size (advF s (digK d.toNat))
  have hone2 := arrU_one (advF s (digK d.toNat))
  have hds := digArr_size d.toNat
  have hdo := map_digF_one d.toNat
  have hb0 : Grew w ((w.alloc (.cells (arrU s) 26)).alloc (.cells (List.replicate 18 (u64V 0)).toArray 33)) := ((Below.refl _ _).alloc (Nat.le_refl _) _).alloc (by simp) _
  have hg0 : Bk ((w.alloc (.cells (arrU s) 26)).alloc (.cells (List.replicate 18 (u64V 0)).toArray 33)) w.heap.size 26 (arrU s) := (Bk.new _ _ _).alloc _
  have hg1 : Bk ((w.alloc (.cells (arrU s) 26)).alloc (.cells (List.replicate 18 (u64V 0)).toArray 33)) (w.heap.size + 1) 33 (List.replicate 18 (u64V 0)).toArray := by
    have := Bk.new (w.alloc (.cells (arrU s) 26)) 33 (List.replicate 18 (u64V 0)).toArray
    simpa using this
  rw [show signF s d.toNat = advF s (digK d.toNat) from rfl]
  generalize arrU s = cs at *
  generalize hys : arrU (advF s (digK d.toNat)) = ys at *
  generalize ((List.range 18).map (digF d.toNat)).toArray = ds at *
  clear hys
  go_enter Try.func18, Try.ntmps18
  go_wp2_with fail
  refine (C0.out _).mono ?_
  rintro e w1 ⟨rfl, hb1⟩
  have k0 : Bk w1 w.heap.size 26 cs := hg0.grew hb1
  have k1 : Bk w1 (w.heap.size + 1) 33 (List.replicate 18 (u64V 0)).toArray := hg1.grew hb1
  have hb2 : Grew w w1 := grew_trans hb0 hb1
  clear hg0 hg1 hb0 hb1
  have j0 := k0.alloc (.cells ds 30)
  have j1 := k1.alloc (.cells ds 30)
  have j2 := Bk.new w1 30 ds
  have hb3 : Grew w (w1.alloc (.cells ds 30)) := grew_alloc hb2 _
  have hid : (Try.prog.info? 30).map (·.size) = some ds.size := by rw [hds]; kernel_rfl
  have hzd : ((List.replicate 18 (Value.int .i64 0)).toArray).size = ds.size := by rw [hds]; rfl
  have hiy : (Try.prog.info? 33).map (·.size) = some ys.size := by rw [hsz2]; kernel_rfl
  have hzy : ((List.replicate 18 (u64V 0)).toArray).size = ys.size := by rw [hsz2]; rfl
  have hst := run_storeCells_new (P := Try.prog) w1 30 (List.replicate 18 (Value.int .i64 0)).toArray ds hid hzd hdo
  simp only [List.replicate_succ, List.replicate_zero] at hst
  unfold Bk at j0
  go_wp2_with (first
    | (with_reducible refine wpList_load_row rfl 26 _ rfl w.heap.size rfl 26 cs (0, 0) _ j0 Try.underlying26 rfl hi ?_))
  refine (C1.out _ _ j2).mono ?_
  rintro e w2 ⟨rfl, hb4⟩
  have m1 := j1.grew hb4
  have hb5 := grew_trans hb3 hb4
  have m2 := m1.row ys
  unfold Bk at m1 m2
  go_wp2_with (first
    | (with_reducible refine wpList_store_row rfl 33 _ _ rfl (w.heap.size + 1) ys rfl rfl 33 _ m1 hiy hzy hone2 ?_))
  exact bodyPost_ret (results_cell_row Try.results18 _ _ (w.heap.size + 1) _ ys (0, 0) _ rfl m2 Try.underlying33 rfl hiy) rfl ⟨rfl, below_setRow hb5 (by omega) ys⟩
theorem recover_any (s : Nat → Nat) (d : Int) (w : World) (hs : ∀ k, k < 18 → s k < 18446744073709551616) (hd : U64 d) :
    Calls Try.prog 23 #[.agg (arrU s), .int .u64 d] w fun e w' => e = .returned (.int .u64 (recN s d.toNat : Nat)) ∧ Grew w w' := by
  have hsz := arrU_size s
  have hi : (Try.prog.info? 33).map (·.size) = some (arrU s).size := by rw [hsz]; kernel_rfl
  have C1 := Lib.hid (fun (g : Nat) W (h : Bk W g 30 ((List.range 18).map (digF d.toNat)).toArray) =>
    fold_rec s (fun k => 15 - digK d.toNat k) g W hs (fun k _ => Nat.sub_le _ _) (fun k hk W' hW' => cloRec g d.toNat k hk W' (h.grew hW')))
  have C0 := Lib.hid (fun W => digits_any d hd W)
  have hds := digArr_size d.toNat
  have hdo := map_digF_one d.toNat
  have hb0 : Grew w (w.alloc (.cells (arrU s) 33)) := (Below.refl _ _).alloc (Nat.le_refl _) _
  have hg0 : Bk (w.alloc (.cells (arrU s) 33)) w.heap.size 33 (arrU s) := Bk.new _ _ _
  rw [show recN s d.toNat = foldN (advF s fun k => 15 - digK d.toNat k) 18 from rfl]
  generalize arrU s = cs at *
  generalize foldN (advF s fun k => 15 - digK d.toNat k) 18 = y at *
  generalize ((List.range 18).map (digF d.toNat)).toArray = ds at *
  go_enter Try.func23, Try.ntmps23
  go_wp2_with fail
  refine (C0.out _).mono ?_
  rintro e w1 ⟨rfl, hb1⟩
  have k0 : Bk w1 w.heap.size 33 cs := hg0.grew hb1
  have hb2 : Grew w w1 := grew_trans hb0 hb1
  clear hg0 hb0 hb1
  have j0 := k0.alloc (.cells ds 30)
  have j2 := Bk.new w1 30 ds
  have hb3 : Grew w (w1.alloc (.cells ds 30)) := grew_alloc hb2 _
  have hid : (Try.prog.info? 30).map (·.size) = some ds.size := by rw [hds]; kernel_rfl
  have hzd : ((List.replicate 18 (Value.int .i64 0)).toArray).size = ds.size := by rw [hds]; rfl
  have hst := run_storeCells_new (P := Try.prog) w1 30 (List.replicate 18 (Value.int .i64 0)).toArray ds hid hzd hdo
  simp only [List.replicate_succ, List.replicate_zero] at hst
  unfold Bk at j0
  go_wp2_with (first
    | (with_reducible refine wpList_load_row rfl 33 _ rfl w.heap.size rfl 33 cs (0, 0) _ j0 Try.underlying33 rfl hi ?_))
  refine (C1.out _ _ j2).mono ?_
  rintro e w2 ⟨rfl, hb4⟩
  go_wp2_with fail
  go_ret
  exact ⟨rfl, grew_trans hb3 hb4⟩
theorem recN_lt (s : Nat → Nat) (d : Nat) : recN s d < 18446744073709551616 := foldN_lt _ _
theorem pubN_lt (s : Nat → Nat) : pubN s < 18446744073709551616 := foldN_lt _ _
theorem verify_any (p : Int) (s : Nat → Nat) (d : Int) (w : World) (hp : U64 p) (hs : ∀ k, k < 18 → s k < 18446744073709551616) (hd : U64 d) :
    Calls Try.prog 25 #[.int .u64 p, .agg (arrU s), .int .u64 d] w fun e w' => e = .returned (.bool (decide (recN s d.toNat = p.toNat))) ∧ Grew w w' := by
  have hsz := arrU_size s
  have hi : (Try.prog.info? 33).map (·.size) = some (arrU s).size := by rw [hsz]; kernel_rfl
  have C0 := Lib.hid (fun W => recover_any s d W hs hd)
  have hb0 : Grew w (w.alloc (.cells (arrU s) 33)) := (Below.refl _ _).alloc (Nat.le_refl _) _
  have hg0 : Bk (w.alloc (.cells (arrU s) 33)) w.heap.size 33 (arrU s) := Bk.new _ _ _
  have hl := recN_lt s d.toNat
  obtain ⟨hp0, hp1⟩ := hp
  obtain ⟨p, rfl⟩ := Int.eq_ofNat_of_zero_le hp0
  rw [Int.toNat_natCast]
  have HE := Lib.hid (show ((recN s d.toNat : Int) == (p : Int)) = decide (recN s d.toNat = p) by
    by_cases h : recN s d.toNat = p
    · rw [h]; simp
    · simp [h]; omega)
  generalize arrU s = cs at *
  generalize recN s d.toNat = y at *
  have hq := HE.out
  unfold Bk at hg0
  go_enter Try.func25, Try.ntmps25
  go_wp2_with (first
    | (with_reducible refine wpList_load_row rfl 33 _ rfl w.heap.size rfl 33 cs (0, 0) _ hg0 Try.underlying33 rfl hi ?_))
  refine (C0.out _).mono ?_
  rintro e w1 ⟨rfl, hb1⟩
  go_wp2_with fail
  go_ret
  exact ⟨rfl, grew_trans hb0 hb1⟩
end Go.Proofs.Ytlhjkgohojcbpaa
