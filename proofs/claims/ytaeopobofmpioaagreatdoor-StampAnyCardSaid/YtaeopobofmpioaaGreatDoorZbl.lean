/- folkmootlaw11.Of: a stamp as the reference's. -/
import Derived.Test.YtaeopobofmpioaaGreatDoorZbk
import Derived.Test.YtaeopobofmpioaaGreatDoorZat
import Derived.Test.YtaeopobofmpioaaGreatDoorZbj
import Derived.Test.YtaeopobofmpioaaGreatDoorZan
namespace Go.Proofs.YtaeopobofmpioaaGreatDoor
set_option linter.unusedSimpArgs false
set_option linter.unusedVariables false
open Go.RowKit
set_option linter.unusedVariables false
set_option linter.unusedSimpArgs false
structure AgT (w : World) (B : Nat) (cm : Nat) (who at_ sw lf : Int) (s : Nat → Nat) (l : List Nat) (v : Value) : Prop where
  out : ∃ A c, v = .agg (stC cm who at_ sw lf s (.slice A l.length c)) ∧ Rd w w.heap.size A (u64L l) ∧ (∀ ad, A = some ad → B ≤ ad.block)
theorem AgT.gr {w w' : World} {B cm : Nat} {who at_ sw lf : Int} {s : Nat → Nat} {l : List Nat} {v : Value} (h : AgT w B cm who at_ sw lf s l v) (g : Grew w w') : AgT w' B cm who at_ sw lf s l v := by
  obtain ⟨A, c, h1, h2, h3⟩ := h.out
  exact ⟨A, c, h1, h2.gr g, h3⟩
set_option maxRecDepth 100000 in
set_option maxHeartbeats 2000000 in
theorem kof_fr (who leaf : Int) (s : Nat → Nat) (A : Option Addr) (c : Nat) (l : List Nat) (hl : l.length ≤ 1048576) (w : World) (hr : Rd w w.heap.size A (u64L l)) :
    Calls Tryz.prog 94 #[.agg (sgC who leaf s (.slice A l.length c))] w fun e w' => ∃ A' c', e = .returned (.agg (sgC who leaf s (.slice A' l.length c'))) ∧ Rd w' w'.heap.size A' (u64L l) ∧ Grew w w' ∧ (∀ ad, A' = some ad → w.heap.size ≤ ad.block) := by
  have z0 := Ag.new w 42 (sgC who leaf s (.slice A l.length c))
  have G0 := grew_alloc (grew_refl w) (.cells (sgC who leaf s (.slice A l.length c)) 42)
  have hwz : w.heap.size < (w.alloc (.cells (sgC who leaf s (.slice A l.length c)) 42)).heap.size := z0.lt
  have HIA : Hid ((Tryz.prog.info? 40).map (·.size) = some (arrU s).toList.length) := Lib.hid (by rw [show (arrU s).toList.length = 18 by simp [arrU]]; kernel_rfl)
  have hua := Tryz.underlying40
  have hur := Tryz.underlying28
  go_enter Tryz.func94, Tryz.ntmps94
  go_wp2_with fail
  have z2 : Ag ((w.alloc (.cells (sgC who leaf s (.slice A l.length c)) 42)).alloc (.cells (#[.int .i64 0, .int .i64 0, .int .u64 0, .int .u64 0, .int .u64 0, .int .u64 0, .int .u64 0, .int .u64 0, .int .u64 0, .int .u64 0, .int .u64 0, .int .u64 0, .int .u64 0, .int .u64 0, .int .u64 0, .int .u64 0, .int .u64 0, .int .u64 0, .int .u64 0, .int .u64 0, .slice none 0 0]) 28)) (w.heap.size + 1) (#[.int .i64 0, .int .i64 0, .int .u64 0, .int .u64 0, .int .u64 0, .int .u64 0, .int .u64 0, .int .u64 0, .int .u64 0, .int .u64 0, .int .u64 0, .int .u64 0, .int .u64 0, .int .u64 0, .int .u64 0, .int .u64 0, .int .u64 0, .int .u64 0, .int .u64 0, .int .u64 0, .slice none 0 0] : Array Value).toList := by
    have := Ag.new (w.alloc (.cells (sgC who leaf s (.slice A l.length c)) 42)) 28 (#[.int .i64 0, .int .i64 0, .int .u64 0, .int .u64 0, .int .u64 0, .int .u64 0, .int .u64 0, .int .u64 0, .int .u64 0, .int .u64 0, .int .u64 0, .int .u64 0, .int .u64 0, .int .u64 0, .int .u64 0, .int .u64 0, .int .u64 0, .int .u64 0, .int .u64 0, .int .u64 0, .slice none 0 0])
    simpa using this
  have z1 := z0.grew (grew_alloc (grew_refl _) (.cells (#[.int .i64 0, .int .i64 0, .int .u64 0, .int .u64 0, .int .u64 0, .int .u64 0, .int .u64 0, .int .u64 0, .int .u64 0, .int .u64 0, .int .u64 0, .int .u64 0, .int .u64 0, .int .u64 0, .int .u64 0, .int .u64 0, .int .u64 0, .int .u64 0, .int .u64 0, .int .u64 0, .slice none 0 0]) 28))
  have G2 := grew_alloc G0 (.cells (#[.int .i64 0, .int .i64 0, .int .u64 0, .int .u64 0, .int .u64 0, .int .u64 0, .int .u64 0, .int .u64 0, .int .u64 0, .int .u64 0, .int .u64 0, .int .u64 0, .int .u64 0, .int .u64 0, .int .u64 0, .int .u64 0, .int .u64 0, .int .u64 0, .int .u64 0, .int .u64 0, .slice none 0 0]) 28)
  clear z0 G0 hwz
  generalize (w.alloc (.cells (sgC who leaf s (.slice A l.length c)) 42)).alloc (.cells (#[.int .i64 0, .int .i64 0, .int .u64 0, .int .u64 0, .int .u64 0, .int .u64 0, .int .u64 0, .int .u64 0, .int .u64 0, .int .u64 0, .int .u64 0, .int .u64 0, .int .u64 0, .int .u64 0, .int .u64 0, .int .u64 0, .int .u64 0, .int .u64 0, .int .u64 0, .int .u64 0, .slice none 0 0]) 28) = w2 at *
  have HC0 : Hid (∀ y, Grew w2 y → y.cell? ⟨w.heap.size, 0, none⟩ = some (.int .i64 who)) := Lib.hid (fun y g => by simpa using (z1.grew g).cell 0 _ rfl)
  have HC1 : Hid (∀ y, Grew w2 y → y.cell? ⟨w.heap.size, 1, none⟩ = some (.int .i64 leaf)) := Lib.hid (fun y g => by simpa using (z1.grew g).cell 1 _ rfl)
  have HC20 : Hid (∀ y, Grew w2 y → y.cell? ⟨w.heap.size, 20, none⟩ = some (.slice A l.length c)) := Lib.hid (fun y g => by simpa using (z1.grew g).cell 20 _ rfl)
  have HCM : Hid (∀ y, Grew w2 y → y.rangeAt w.heap.size 2 (arrU s).toList) := Lib.hid (fun y g => sg_mid (z1.grew g))
  have r2 := hr.gr G2
  have HRY := Lib.hid (fun y (g : Grew w2 y) => r2.gr g)
  clear z1 hr r2
  refine wp_region_rel 11 (fun i => match i with
      | 0 => fun v _ => v = .pointer (some ⟨w.heap.size, 0, none⟩)
      | 1 => fun v _ => v = .int .i64 who
      | 2 => fun v _ => v = .pointer (some ⟨w.heap.size, 1, none⟩)
      | 3 => fun v _ => v = .int .i64 leaf
      | 4 => fun v _ => v = .pointer (some ⟨w.heap.size, 2, none⟩)
      | 5 => fun v _ => v = .agg (arrU s)
      | 6 => fun v _ => v = .agg (arrU s)
      | 7 => fun v _ => v = .pointer (some ⟨w.heap.size, 20, none⟩)
      | 8 => fun v _ => v = .slice A l.length c
      | 9 => fun v w => PV w w2.heap.size l v
      | 10 => fun v w => AgS w w2.heap.size who leaf s l v
      | _ => fun _ _ => True) (by kernel_rfl) (by kernel_rfl) ?_ ?_ ?_
  · intro i v x y h hg
    match i, h with
    | 0, h | 1, h | 2, h | 3, h | 4, h | 5, h | 6, h | 7, h | 8, h => exact h
    | 9, h => exact PV.gr h hg
    | 10, h => exact AgS.gr h hg
    | m + 11, _ => trivial
  · refine ⟨?_, ?_, ?_, ?_, ?_, ?_, ?_, ?_, ?_, ?_, ?_, trivial⟩
    · intro vs y hg hd
      simp only [actOf, List.take_succ_cons, List.take_zero, List.drop_succ_cons, List.drop_zero, Act.put, List.setIfInBounds_toArray, List.set_cons_succ, List.set_cons_zero, Nat.reduceAdd]
      go_wp2_with fail
      exact ⟨rfl, _, rfl, grew_refl _, rfl⟩
    · intro vs y hg hd
      obtain ⟨h0, _⟩ := hd
      replace h0 := h0 rfl
      simp only [actOf, List.take_succ_cons, List.take_zero, List.drop_succ_cons, List.drop_zero, Act.put, List.setIfInBounds_toArray, List.set_cons_succ, List.set_cons_zero, Nat.reduceAdd]
      rw [show vs 0 = _ from h0]
      have hc := HC0.out y hg
      go_wp2_with fail
      exact ⟨rfl, _, rfl, grew_refl _, rfl⟩
    · intro vs y hg hd
      simp only [actOf, List.take_succ_cons, List.take_zero, List.drop_succ_cons, List.drop_zero, Act.put, List.setIfInBounds_toArray, List.set_cons_succ, List.set_cons_zero, Nat.reduceAdd]
      go_wp2_with fail
      exact ⟨rfl, _, rfl, grew_refl _, rfl⟩
    · intro vs y hg hd
      obtain ⟨h2, _⟩ := hd
      replace h2 := h2 rfl
      simp only [actOf, List.take_succ_cons, List.take_zero, List.drop_succ_cons, List.drop_zero, Act.put, List.setIfInBounds_toArray, List.set_cons_succ, List.set_cons_zero, Nat.reduceAdd]
      rw [show vs 2 = _ from h2]
      have hc := HC1.out y hg
      go_wp2_with fail
      exact ⟨rfl, _, rfl, grew_refl _, rfl⟩
    · intro vs y hg hd
      simp only [actOf, List.take_succ_cons, List.take_zero, List.drop_succ_cons, List.drop_zero, Act.put, List.setIfInBounds_toArray, List.set_cons_succ, List.set_cons_zero, Nat.reduceAdd]
      go_wp2_with fail
      exact ⟨rfl, _, rfl, grew_refl _, rfl⟩
    · intro vs y hg hd
      obtain ⟨h4, _⟩ := hd
      replace h4 := h4 rfl
      simp only [actOf, List.take_succ_cons, List.take_zero, List.drop_succ_cons, List.drop_zero, Act.put, List.setIfInBounds_toArray, List.set_cons_succ, List.set_cons_zero, Nat.reduceAdd]
      rw [show vs 4 = _ from h4]
      have hm := HCM.out y hg
      go_wp2_with (with_reducible refine wpList_load_mid rfl 40 (.tmp 7) rfl w.heap.size 2 rfl (arrU s).toList _ hm hua rfl HIA.out ?_)
      exact ⟨rfl, _, rfl, grew_refl _, rfl⟩
    · intro vs y hg hd
      obtain ⟨h5, _⟩ := hd
      replace h5 := h5 rfl
      simp only [actOf, List.take_succ_cons, List.take_zero, List.drop_succ_cons, List.drop_zero, Act.put, List.setIfInBounds_toArray, List.set_cons_succ, List.set_cons_zero, Nat.reduceAdd]
      rw [show vs 5 = _ from h5]
      go_wp2_with (go_at_call 145; refine (of_row s y).mono ?_; rintro e z ⟨rfl, gz⟩)
      exact ⟨rfl, _, rfl, gz, rfl⟩
    · intro vs y hg hd
      simp only [actOf, List.take_succ_cons, List.take_zero, List.drop_succ_cons, List.drop_zero, Act.put, List.setIfInBounds_toArray, List.set_cons_succ, List.set_cons_zero, Nat.reduceAdd]
      go_wp2_with fail
      exact ⟨rfl, _, rfl, grew_refl _, rfl⟩
    · intro vs y hg hd
      obtain ⟨h7, _⟩ := hd
      replace h7 := h7 rfl
      simp only [actOf, List.take_succ_cons, List.take_zero, List.drop_succ_cons, List.drop_zero, Act.put, List.setIfInBounds_toArray, List.set_cons_succ, List.set_cons_zero, Nat.reduceAdd]
      rw [show vs 7 = _ from h7]
      have hc := HC20.out y hg
      go_wp2_with fail
      exact ⟨rfl, _, rfl, grew_refl _, rfl⟩
    · intro vs y hg hd
      obtain ⟨h8, _⟩ := hd
      replace h8 := h8 rfl
      simp only [actOf, List.take_succ_cons, List.take_zero, List.drop_succ_cons, List.drop_zero, Act.put, List.setIfInBounds_toArray, List.set_cons_succ, List.set_cons_zero, Nat.reduceAdd]
      rw [show vs 8 = _ from h8]
      go_wp2_with (go_at_call 100; refine (mkof_any A c y.heap.size l hl y (HRY.out y hg) (Nat.le_refl _)).mono ?_; rintro e z ⟨A2, c2, rfl, hr9, hb9, gz⟩)
      exact ⟨rfl, _, rfl, gz, ⟨A2, c2, rfl, hr9, fun ad h => Nat.le_trans hg.size (hb9 ad h)⟩⟩
    · intro vs y hg hd
      obtain ⟨h1, h3, h6, h9, _⟩ := hd
      replace h1 := h1 rfl
      replace h3 := h3 rfl
      replace h6 := h6 rfl
      replace h9 := h9 rfl
      simp only [actOf, List.take_succ_cons, List.take_zero, List.drop_succ_cons, List.drop_zero, Act.put, List.setIfInBounds_toArray, List.set_cons_succ, List.set_cons_zero, Nat.reduceAdd]
      rw [show vs 1 = _ from h1, show vs 3 = _ from h3, show vs 6 = _ from h6]
      obtain ⟨A2, c2, hv, hr9, hb9⟩ := PV.out h9
      rw [hv]
      have hbu := rg_built who leaf s A2 l.length c2
      generalize arrU s = aa at *
      refine wpList_build_is rfl 28 #[(0, .tmp 4), (1, .tmp 6), (2, .tmp 9), (3, .tmp 12)] rfl _ (by simpa [Act.eval] using hbu) ?_
      go_wp2_with fail
      exact ⟨rfl, _, rfl, grew_refl _, ⟨A2, c2, rfl, hr9, hb9⟩⟩
  · intro vs y hg hJ
    have j0 : vs 0 = .pointer (some ⟨w.heap.size, 0, none⟩) := hJ 0 (by decide)
    have j1 : vs 1 = .int .i64 who := hJ 1 (by decide)
    have j2 : vs 2 = .pointer (some ⟨w.heap.size, 1, none⟩) := hJ 2 (by decide)
    have j3 : vs 3 = .int .i64 leaf := hJ 3 (by decide)
    have j4 : vs 4 = .pointer (some ⟨w.heap.size, 2, none⟩) := hJ 4 (by decide)
    have j5 : vs 5 = .agg (arrU s) := hJ 5 (by decide)
    have j6 : vs 6 = .agg (arrU s) := hJ 6 (by decide)
    have j7 : vs 7 = .pointer (some ⟨w.heap.size, 20, none⟩) := hJ 7 (by decide)
    have j8 : vs 8 = .slice A l.length c := hJ 8 (by decide)
    simp only [actOf, List.take_succ_cons, List.take_zero, List.drop_succ_cons, List.drop_zero, Act.put, List.setIfInBounds_toArray, List.set_cons_succ, List.set_cons_zero, Nat.reduceAdd]
    obtain ⟨A2, c2, j10, r3, hb3⟩ := AgS.out (show AgS y w2.heap.size who leaf s l (vs 10) from hJ 10 (by decide))
    rw [j10]
    clear hJ j0 j1 j2 j3 j4 j5 j6 j7 j8 j10
    have h2 := z2.lt
    have HLO : Hid (∀ ad, A2 = some ad → w.heap.size ≤ ad.block) := Lib.hid (fun ad h => by have := hb3 ad h; have := G2.size; omega)
    have HNE : Hid (∀ ad, A2 = some ad → ad.block ≠ w.heap.size + 1) := Lib.hid (fun ad h => by have := hb3 ad h; omega)
    have z3 := z2.grew hg
    have G3 := grew_trans G2 hg
    clear z2 G2 hg hb3 h2
    have HTH : Hid (y.there (w.heap.size + 1) 0 (sgC who leaf s (.slice A2 l.length c2)).size) := Lib.hid (z3.thereN 21 rfl)
    have HSI : Hid ((Tryz.prog.info? 28).map (·.size) = some (sgC who leaf s (.slice A2 l.length c2)).size) := Lib.hid rg_info
    have HON := Lib.hid (sgC_one who leaf s A2 l.length c2)
    have K3 := setCells_kp (sgC who leaf s (.slice A2 l.length c2)).toList (w.heap.size + 1) 0 y
    have r4 := (r3.kp K3 (Nat.le_refl _) (fun ad h1 h2 h3 => HNE.out ad h1 h3)).more K3.size
    have z4 := Ag.set (vs := (sgC who leaf s (.slice A2 l.length c2)).toList) z3 rfl
    have G4 := setCells_grew (o := 0) (b := w.heap.size + 1) (sgC who leaf s (.slice A2 l.length c2)).toList G3 (by omega)
    go_wp2_with (with_reducible refine wpList_store_mid rfl 28 (.tmp 2) (.tmp 13) rfl (w.heap.size + 1) 0 (sgC who leaf s (.slice A2 l.length c2)) rfl rfl HTH.out HSI.out HON.out ?_)
    exact bodyPost_ret (results_ag1 Tryz.results94 _ _ (w.heap.size + 1) _ _ rfl z4 hur rfl rg_info) rfl ⟨A2, ⟨c2, rfl⟩, r4, G4, HLO.out⟩
set_option maxRecDepth 100000 in
set_option maxHeartbeats 2000000 in
theorem stof_ok (cm : Nat) (who at_ sw lf : Int) (s : Nat → Nat) (A : Option Addr) (c : Nat) (l : List Nat) (hl : l.length ≤ 1048576) (w : World) (hr : Rd w w.heap.size A (u64L l)) :
    Calls Tryz.prog 31 #[.agg (stC cm who at_ sw lf s (.slice A l.length c))] w fun e w' => ∃ A' c', e = .returned (.agg (stC cm who at_ sw lf s (.slice A' l.length c'))) ∧ Rd w' w'.heap.size A' (u64L l) ∧ Grew w w' ∧ (∀ ad, A' = some ad → w.heap.size ≤ ad.block) := by
  have z0 := Ag.new w 44 (stC cm who at_ sw lf s (.slice A l.length c))
  have G0 := grew_alloc (grew_refl w) (.cells (stC cm who at_ sw lf s (.slice A l.length c)) 44)
  have hus := Tryz.underlying42
  have hur := Tryz.underlying30
  have CO := Lib.hid (fun W hR => kof_fr sw lf s A c l hl W hR)
  have HSL : Hid ((Tryz.prog.info? 42).map (·.size) = some (sgC sw lf s (.slice A l.length c)).toList.length) := Lib.hid sg_info
  go_enter Tryz.func31, Tryz.ntmps31
  go_wp2_with fail
  have z2 : Ag ((w.alloc (.cells (stC cm who at_ sw lf s (.slice A l.length c)) 44)).alloc (.cells (#[.int .u64 0, .int .i64 0, .int .i64 0, .int .i64 0, .int .i64 0, .int .u64 0, .int .u64 0, .int .u64 0, .int .u64 0, .int .u64 0, .int .u64 0, .int .u64 0, .int .u64 0, .int .u64 0, .int .u64 0, .int .u64 0, .int .u64 0, .int .u64 0, .int .u64 0, .int .u64 0, .int .u64 0, .int .u64 0, .int .u64 0, .slice none 0 0]) 30)) (w.heap.size + 1) (#[.int .u64 0, .int .i64 0, .int .i64 0, .int .i64 0, .int .i64 0, .int .u64 0, .int .u64 0, .int .u64 0, .int .u64 0, .int .u64 0, .int .u64 0, .int .u64 0, .int .u64 0, .int .u64 0, .int .u64 0, .int .u64 0, .int .u64 0, .int .u64 0, .int .u64 0, .int .u64 0, .int .u64 0, .int .u64 0, .int .u64 0, .slice none 0 0] : Array Value).toList := by
    have := Ag.new (w.alloc (.cells (stC cm who at_ sw lf s (.slice A l.length c)) 44)) 30 (#[.int .u64 0, .int .i64 0, .int .i64 0, .int .i64 0, .int .i64 0, .int .u64 0, .int .u64 0, .int .u64 0, .int .u64 0, .int .u64 0, .int .u64 0, .int .u64 0, .int .u64 0, .int .u64 0, .int .u64 0, .int .u64 0, .int .u64 0, .int .u64 0, .int .u64 0, .int .u64 0, .int .u64 0, .int .u64 0, .int .u64 0, .slice none 0 0])
    simpa using this
  have z1 := z0.grew (grew_alloc (grew_refl _) (.cells (#[.int .u64 0, .int .i64 0, .int .i64 0, .int .i64 0, .int .i64 0, .int .u64 0, .int .u64 0, .int .u64 0, .int .u64 0, .int .u64 0, .int .u64 0, .int .u64 0, .int .u64 0, .int .u64 0, .int .u64 0, .int .u64 0, .int .u64 0, .int .u64 0, .int .u64 0, .int .u64 0, .int .u64 0, .int .u64 0, .int .u64 0, .slice none 0 0]) 30))
  have G2 := grew_alloc G0 (.cells (#[.int .u64 0, .int .i64 0, .int .i64 0, .int .i64 0, .int .i64 0, .int .u64 0, .int .u64 0, .int .u64 0, .int .u64 0, .int .u64 0, .int .u64 0, .int .u64 0, .int .u64 0, .int .u64 0, .int .u64 0, .int .u64 0, .int .u64 0, .int .u64 0, .int .u64 0, .int .u64 0, .int .u64 0, .int .u64 0, .int .u64 0, .slice none 0 0]) 30)
  clear z0 G0
  generalize (w.alloc (.cells (stC cm who at_ sw lf s (.slice A l.length c)) 44)).alloc (.cells (#[.int .u64 0, .int .i64 0, .int .i64 0, .int .i64 0, .int .i64 0, .int .u64 0, .int .u64 0, .int .u64 0, .int .u64 0, .int .u64 0, .int .u64 0, .int .u64 0, .int .u64 0, .int .u64 0, .int .u64 0, .int .u64 0, .int .u64 0, .int .u64 0, .int .u64 0, .int .u64 0, .int .u64 0, .int .u64 0, .int .u64 0, .slice none 0 0]) 30) = w2 at *
  have HC0 : Hid (∀ y, Grew w2 y → y.cell? ⟨w.heap.size, 0, none⟩ = some (.int .u64 (cm : Nat))) := Lib.hid (fun y g => by simpa using (z1.grew g).cell 0 _ rfl)
  have HC1 : Hid (∀ y, Grew w2 y → y.cell? ⟨w.heap.size, 1, none⟩ = some (.int .i64 who)) := Lib.hid (fun y g => by simpa using (z1.grew g).cell 1 _ rfl)
  have HC2 : Hid (∀ y, Grew w2 y → y.cell? ⟨w.heap.size, 2, none⟩ = some (.int .i64 at_)) := Lib.hid (fun y g => by simpa using (z1.grew g).cell 2 _ rfl)
  have HCM : Hid (∀ y, Grew w2 y → y.rangeAt w.heap.size 3 (sgC sw lf s (.slice A l.length c)).toList) := Lib.hid (fun y g => st_sig (z1.grew g).cell)
  have r2 := hr.gr G2
  have HRY := Lib.hid (fun y (g : Grew w2 y) => r2.gr g)
  clear z1 hr r2
  generalize sgC sw lf s (.slice A l.length c) = gs at *
  refine wp_region_rel 10 (fun i => match i with
      | 0 => fun v _ => v = .pointer (some ⟨w.heap.size, 0, none⟩)
      | 1 => fun v _ => v = .int .u64 (cm : Nat)
      | 2 => fun v _ => v = .pointer (some ⟨w.heap.size, 1, none⟩)
      | 3 => fun v _ => v = .int .i64 who
      | 4 => fun v _ => v = .pointer (some ⟨w.heap.size, 2, none⟩)
      | 5 => fun v _ => v = .int .i64 at_
      | 6 => fun v _ => v = .pointer (some ⟨w.heap.size, 3, none⟩)
      | 7 => fun v _ => v = .agg gs
      | 8 => fun v w => AgS w w2.heap.size sw lf s l v
      | 9 => fun v w => AgT w w2.heap.size cm who at_ sw lf s l v
      | _ => fun _ _ => True) (by kernel_rfl) (by kernel_rfl) ?_ ?_ ?_
  · intro i v x y h hg
    match i, h with
    | 0, h | 1, h | 2, h | 3, h | 4, h | 5, h | 6, h | 7, h => exact h
    | 8, h => exact AgS.gr h hg
    | 9, h => exact AgT.gr h hg
    | m + 10, _ => trivial
  · refine ⟨?_, ?_, ?_, ?_, ?_, ?_, ?_, ?_, ?_, ?_, trivial⟩
    · intro vs y hg hd
      simp only [actOf, List.take_succ_cons, List.take_zero, List.drop_succ_cons, List.drop_zero, Act.put, List.setIfInBounds_toArray, List.set_cons_succ, List.set_cons_zero, Nat.reduceAdd]
      go_wp2_with fail
      exact ⟨rfl, _, rfl, grew_refl _, rfl⟩
    · intro vs y hg hd
      obtain ⟨h0, _⟩ := hd
      replace h0 := h0 rfl
      simp only [actOf, List.take_succ_cons, List.take_zero, List.drop_succ_cons, List.drop_zero, Act.put, List.setIfInBounds_toArray, List.set_cons_succ, List.set_cons_zero, Nat.reduceAdd]
      rw [show vs 0 = _ from h0]
      have hc := HC0.out y hg
      go_wp2_with fail
      exact ⟨rfl, _, rfl, grew_refl _, rfl⟩
    · intro vs y hg hd
      simp only [actOf, List.take_succ_cons, List.take_zero, List.drop_succ_cons, List.drop_zero, Act.put, List.setIfInBounds_toArray, List.set_cons_succ, List.set_cons_zero, Nat.reduceAdd]
      go_wp2_with fail
      exact ⟨rfl, _, rfl, grew_refl _, rfl⟩
    · intro vs y hg hd
      obtain ⟨h2, _⟩ := hd
      replace h2 := h2 rfl
      simp only [actOf, List.take_succ_cons, List.take_zero, List.drop_succ_cons, List.drop_zero, Act.put, List.setIfInBounds_toArray, List.set_cons_succ, List.set_cons_zero, Nat.reduceAdd]
      rw [show vs 2 = _ from h2]
      have hc := HC1.out y hg
      go_wp2_with fail
      exact ⟨rfl, _, rfl, grew_refl _, rfl⟩
    · intro vs y hg hd
      simp only [actOf, List.take_succ_cons, List.take_zero, List.drop_succ_cons, List.drop_zero, Act.put, List.setIfInBounds_toArray, List.set_cons_succ, List.set_cons_zero, Nat.reduceAdd]
      go_wp2_with fail
      exact ⟨rfl, _, rfl, grew_refl _, rfl⟩
    · intro vs y hg hd
      obtain ⟨h4, _⟩ := hd
      replace h4 := h4 rfl
      simp only [actOf, List.take_succ_cons, List.take_zero, List.drop_succ_cons, List.drop_zero, Act.put, List.setIfInBounds_toArray, List.set_cons_succ, List.set_cons_zero, Nat.reduceAdd]
      rw [show vs 4 = _ from h4]
      have hc := HC2.out y hg
      go_wp2_with fail
      exact ⟨rfl, _, rfl, grew_refl _, rfl⟩
    · intro vs y hg hd
      simp only [actOf, List.take_succ_cons, List.take_zero, List.drop_succ_cons, List.drop_zero, Act.put, List.setIfInBounds_toArray, List.set_cons_succ, List.set_cons_zero, Nat.reduceAdd]
      go_wp2_with fail
      exact ⟨rfl, _, rfl, grew_refl _, rfl⟩
    · intro vs y hg hd
      obtain ⟨h6, _⟩ := hd
      replace h6 := h6 rfl
      simp only [actOf, List.take_succ_cons, List.take_zero, List.drop_succ_cons, List.drop_zero, Act.put, List.setIfInBounds_toArray, List.set_cons_succ, List.set_cons_zero, Nat.reduceAdd]
      rw [show vs 6 = _ from h6]
      have hm := HCM.out y hg
      go_wp2_with (with_reducible refine wpList_load_mid rfl 42 (.tmp 9) rfl w.heap.size 3 rfl gs.toList _ hm hus rfl HSL.out ?_; simp only [Array.toArray_toList])
      exact ⟨rfl, _, rfl, grew_refl _, rfl⟩
    · intro vs y hg hd
      obtain ⟨h7, _⟩ := hd
      replace h7 := h7 rfl
      simp only [actOf, List.take_succ_cons, List.take_zero, List.drop_succ_cons, List.drop_zero, Act.put, List.setIfInBounds_toArray, List.set_cons_succ, List.set_cons_zero, Nat.reduceAdd]
      rw [show vs 7 = _ from h7]
      go_wp2_with (go_at_call 94; refine (CO.out y (HRY.out y hg)).mono ?_; rintro e z ⟨A2, c2, rfl, hr2, gz, hb2⟩)
      exact ⟨rfl, _, rfl, gz, ⟨A2, c2, rfl, hr2, fun ad h => by have := hb2 ad h; have := hg.size; omega⟩⟩
    · intro vs y hg hd
      obtain ⟨h1, h3, h5, h8, _⟩ := hd
      replace h1 := h1 rfl
      replace h3 := h3 rfl
      replace h5 := h5 rfl
      replace h8 := h8 rfl
      simp only [actOf, List.take_succ_cons, List.take_zero, List.drop_succ_cons, List.drop_zero, Act.put, List.setIfInBounds_toArray, List.set_cons_succ, List.set_cons_zero, Nat.reduceAdd]
      rw [show vs 1 = _ from h1, show vs 3 = _ from h3, show vs 5 = _ from h5]
      obtain ⟨A2, c2, hv, hr2, hb2⟩ := AgS.out h8
      rw [hv]
      have HBU := Lib.hid (rst_built cm who at_ sw lf s A2 l.length c2)
      go_wp2_with (with_reducible refine wpList_build_is rfl 30 #[(0, .tmp 4), (1, .tmp 6), (2, .tmp 8), (3, .tmp 11)] rfl (stC cm who at_ sw lf s (.slice A2 l.length c2)) ?_ ?_; · simpa [Act.eval, Act.put] using HBU.out)
      exact ⟨rfl, _, rfl, grew_refl _, ⟨A2, c2, rfl, hr2, hb2⟩⟩
  · intro vs y hg hJ
    have j0 : vs 0 = .pointer (some ⟨w.heap.size, 0, none⟩) := hJ 0 (by decide)
    have j1 : vs 1 = .int .u64 (cm : Nat) := hJ 1 (by decide)
    have j2 : vs 2 = .pointer (some ⟨w.heap.size, 1, none⟩) := hJ 2 (by decide)
    have j3 : vs 3 = .int .i64 who := hJ 3 (by decide)
    have j4 : vs 4 = .pointer (some ⟨w.heap.size, 2, none⟩) := hJ 4 (by decide)
    have j5 : vs 5 = .int .i64 at_ := hJ 5 (by decide)
    have j6 : vs 6 = .pointer (some ⟨w.heap.size, 3, none⟩) := hJ 6 (by decide)
    have j7 : vs 7 = .agg gs := hJ 7 (by decide)
    have s11 := hJ 8 (by decide)
    have s12 := hJ 9 (by decide)
    clear hJ
    simp only [actOf, List.take_succ_cons, List.take_zero, List.drop_succ_cons, List.drop_zero, Act.put, List.setIfInBounds_toArray, List.set_cons_succ, List.set_cons_zero, Nat.reduceAdd]
    obtain ⟨A2, c2, j9, r3, hb3⟩ := AgT.out s12
    rw [j9]
    clear s11 s12 j9
    have hz1 := z2.lt
    have hz2 := G2.size
    have HNE : Hid (∀ ad, A2 = some ad → ad.block ≠ w.heap.size + 1) := Lib.hid (fun ad h => by have := hb3 ad h; omega)
    have HLO : Hid (∀ ad, A2 = some ad → w.heap.size ≤ ad.block) := Lib.hid (fun ad h => by have := hb3 ad h; omega)
    have z3 := z2.grew hg
    have G3 := grew_trans G2 hg
    clear z2 G2 hg hb3 hz1 hz2
    have HTH : Hid (y.there (w.heap.size + 1) 0 (stC cm who at_ sw lf s (.slice A2 l.length c2)).size) := Lib.hid (z3.thereN 24 rfl)
    have HSI : Hid ((Tryz.prog.info? 30).map (·.size) = some (stC cm who at_ sw lf s (.slice A2 l.length c2)).size) := Lib.hid rst_info
    have HON := Lib.hid (stC_one cm who at_ sw lf s A2 l.length c2)
    have K3 := setCells_kp (stC cm who at_ sw lf s (.slice A2 l.length c2)).toList (w.heap.size + 1) 0 y
    have r4 := (r3.kp K3 (Nat.le_refl _) (fun ad h1 h2 h3 => HNE.out ad h1 h3)).more K3.size
    have z4 := Ag.set (vs := (stC cm who at_ sw lf s (.slice A2 l.length c2)).toList) z3 rfl
    have G4 := setCells_grew (o := 0) (b := w.heap.size + 1) (stC cm who at_ sw lf s (.slice A2 l.length c2)).toList G3 (by omega)
    go_wp2_with (with_reducible refine wpList_store_mid rfl 30 (.tmp 2) (.tmp 12) rfl (w.heap.size + 1) 0 (stC cm who at_ sw lf s (.slice A2 l.length c2)) rfl rfl HTH.out HSI.out HON.out ?_)
    exact bodyPost_ret (results_ag1 Tryz.results31 _ _ (w.heap.size + 1) _ _ rfl z4 hur rfl rst_info) rfl ⟨A2, ⟨c2, rfl⟩, r4, G4, HLO.out⟩
end Go.Proofs.YtaeopobofmpioaaGreatDoor

namespace Go.Proofs.YtaeopobofmpioaaGreatDoor
set_option linter.unusedSimpArgs false
set_option linter.unusedVariables false
open Go.RowKit
set_option linter.unusedVariables false
set_option linter.unusedSimpArgs false
set_option maxRecDepth 100000 in
set_option maxHeartbeats 1000000 in
theorem rstsame_ok (cm : Nat) (who at_ sw lf : Int) (s : Nat → Nat) (A A' : Option Addr) (c c' : Nat) (l : List Nat) (hl : l.length ≤ 1048576) (w : World) (hr : Rd w w.heap.size A (u64L l)) (hr' : Rd w w.heap.size A' (u64L l)) :
    Calls Tryz.prog 30 #[.agg (stC cm who at_ sw lf s (.slice A l.length c)), .agg (stC cm who at_ sw lf s (.slice A' l.length c'))] w fun e w' => e = .returned (.bool true) ∧ Grew w w' := by
  have z1 := (Ag.new w 30 (stC cm who at_ sw lf s (.slice A l.length c))).grew (grew_alloc (grew_refl _) (.cells (stC cm who at_ sw lf s (.slice A' l.length c')) 30))
  have z2 := Ag.new (w.alloc (.cells (stC cm who at_ sw lf s (.slice A l.length c)) 30)) 30 (stC cm who at_ sw lf s (.slice A' l.length c'))
  rw [alloc_size] at z2
  have G0 := grew_alloc (grew_alloc (grew_refl w) (.cells (stC cm who at_ sw lf s (.slice A l.length c)) 30)) (.cells (stC cm who at_ sw lf s (.slice A' l.length c')) 30)
  have r1 := hr.gr G0
  have r2 := hr'.gr G0
  have hus := Tryz.underlying28
  have HL1 : Hid ((Tryz.prog.info? 28).map (·.size) = some (sgC sw lf s (.slice A l.length c)).toList.length) := Lib.hid rg_info
  have HL2 : Hid ((Tryz.prog.info? 28).map (·.size) = some (sgC sw lf s (.slice A' l.length c')).toList.length) := Lib.hid rg_info
  have m1 := Lib.hid (st_sig z1.cell)
  have m2 := Lib.hid (st_sig z2.cell)
  have x0 : ((w.alloc (.cells (stC cm who at_ sw lf s (.slice A l.length c)) 30)).alloc (.cells (stC cm who at_ sw lf s (.slice A' l.length c')) 30)).cell? ⟨w.heap.size, 0, none⟩ = some (.int .u64 (cm : Nat)) := by simpa using z1.cell 0 _ rfl
  have x1 : ((w.alloc (.cells (stC cm who at_ sw lf s (.slice A l.length c)) 30)).alloc (.cells (stC cm who at_ sw lf s (.slice A' l.length c')) 30)).cell? ⟨w.heap.size, 1, none⟩ = some (.int .i64 who) := by simpa using z1.cell 1 _ rfl
  have x2 : ((w.alloc (.cells (stC cm who at_ sw lf s (.slice A l.length c)) 30)).alloc (.cells (stC cm who at_ sw lf s (.slice A' l.length c')) 30)).cell? ⟨w.heap.size, 2, none⟩ = some (.int .i64 at_) := by simpa using z1.cell 2 _ rfl
  have y0 : ((w.alloc (.cells (stC cm who at_ sw lf s (.slice A l.length c)) 30)).alloc (.cells (stC cm who at_ sw lf s (.slice A' l.length c')) 30)).cell? ⟨w.heap.size + 1, 0, none⟩ = some (.int .u64 (cm : Nat)) := by simpa using z2.cell 0 _ rfl
  have y1 : ((w.alloc (.cells (stC cm who at_ sw lf s (.slice A l.length c)) 30)).alloc (.cells (stC cm who at_ sw lf s (.slice A' l.length c')) 30)).cell? ⟨w.heap.size + 1, 1, none⟩ = some (.int .i64 who) := by simpa using z2.cell 1 _ rfl
  have y2 : ((w.alloc (.cells (stC cm who at_ sw lf s (.slice A l.length c)) 30)).alloc (.cells (stC cm who at_ sw lf s (.slice A' l.length c')) 30)).cell? ⟨w.heap.size + 1, 2, none⟩ = some (.int .i64 at_) := by simpa using z2.cell 2 _ rfl
  have CS := Lib.hid (rsame_ok sw lf s A A' c c' l hl _ r1 r2)
  have e0 : ((cm : Int) == (cm : Int)) = true := by simp
  have e1 : (who == who) = true := by simp
  have e2 : (at_ == at_) = true := by simp
  have GG := Lib.hid G0
  clear z1 z2 r1 r2 G0 hr hr'
  go_enter Tryz.func30, Tryz.ntmps30
  obtain ⟨v, hv⟩ : ∃ v, (w.alloc (.cells (stC cm who at_ sw lf s (.slice A l.length c)) 30)).alloc (.cells (stC cm who at_ sw lf s (.slice A' l.length c')) 30) = v := ⟨_, rfl⟩
  rw [hv] at CS GG x0 x1 x2 y0 y1 y2 m1 m2
  go_wp2_with (first
    | (refine wpList_load_mid_want (by rfl) 28 (.tmp 25) rfl w.heap.size 3 rfl (sgC sw lf s (.slice A l.length c)).toList _ m1.out hus rfl HL1.out ?_; simp only [Array.toArray_toList])
    | (refine wpList_load_mid_want (by rfl) 28 (.tmp 27) rfl (w.heap.size + 1) 3 rfl (sgC sw lf s (.slice A' l.length c')).toList _ m2.out hus rfl HL2.out ?_; simp only [Array.toArray_toList]))
  refine (CS.out).mono ?_
  rintro e w1 ⟨rfl, gg⟩
  go_wp2_with fail
  go_ret
  exact ⟨rfl, grew_trans GG.out gg⟩
end Go.Proofs.YtaeopobofmpioaaGreatDoor

namespace Go.Proofs.YtaeopobofmpioaaGreatDoor
set_option linter.unusedSimpArgs false
set_option linter.unusedVariables false
open Go.RowKit
set_option linter.unusedVariables false
set_option linter.unusedSimpArgs false
theorem st4_parts {x0 x1 x2 x3 : List UInt8} (h : st4 x0 x1 x2 x3 = true) : (pnum x1).2 = 0 ∧ (pnum x2).2 = 0 ∧ (-2147483648 ≤ (pnum x1).1 ∧ (pnum x1).1 ≤ 2147483647) ∧ (parseO x0).isSome = true ∧ (sigP x3).isSome = true := by
  unfold st4 smallB at h
  simp only [Bool.and_eq_true, decide_eq_true_eq] at h
  exact ⟨h.1.1.1.1, h.1.1.1.2, h.1.1.2, h.1.2, h.2⟩
structure StIn (r : StR) : Prop where
  cm : r.cm < 18446744073709551616
  who : in64 r.who
  at_ : in64 r.at_
  sw : in64 r.g.1.1
  lf : in64 r.g.1.2
  s : ∀ k, k < 18 → r.g.2.1 k < 18446744073709551616
  l : ∀ n ∈ r.g.2.2, n < 18446744073709551616
  len : r.g.2.2.length ≤ 8
theorem stF_in {x0 x1 x2 x3 : List UInt8} (h : st4 x0 x1 x2 x3 = true) : StIn (stF x0 x1 x2 x3) := by
  obtain ⟨h1, h2, h3, h4, h5⟩ := st4_parts h
  obtain ⟨d, hd⟩ := Option.isSome_iff_exists.1 h4
  have hb := (parseO_back hd).2
  have a1 := pnum_zero h1
  have a2 := pnum_zero h2
  have g := sgO_in x3
  exact ⟨by show (parseO x0).getD 0 < _; rw [hd]; exact hb, ⟨a1.2.2.1, a1.2.2.2⟩, ⟨a2.2.2.1, a2.2.2.2⟩, g.1, g.2.1, g.2.2.1, g.2.2.2.1, g.2.2.2.2⟩
theorem zero_in : StIn .zero := ⟨by decide, ⟨by decide, by decide⟩, ⟨by decide, by decide⟩, ⟨by decide, by decide⟩, ⟨by decide, by decide⟩, (fun k _ => by show 0 < _; decide), (fun n h => by cases h), by decide⟩
theorem stO_in (S : List UInt8) : StIn (stO S) := by
  unfold stO
  split
  · split
    · rename_i h; exact stF_in h
    · exact zero_in
  · exact zero_in
def StR.t (r : StR) : List UInt8 := stT r.cm r.who r.at_ r.g.1.1 r.g.1.2 r.g.2.1 r.g.2.2
theorem stO_back {S : List UInt8} (h : stE S = 0) : (stO S).t = S := by
  cases hs : splitF S with
  | none => rw [(stE_none hs).1] at h; exact absurd h (by decide)
  | some l =>
    by_cases hl : 4096 < l.length
    · rw [(stE_long hs hl).1] at h; exact absurd h (by decide)
    by_cases h4 : l.length = 4
    · match l, h4, hs with
      | [x0, x1, x2, x3], _, hs =>
        obtain ⟨e1, e2⟩ := stE_four hs
        by_cases hb : st4 x0 x1 x2 x3 = true
        · rw [if_pos hb] at e2
          rw [e2]
          obtain ⟨h1, h2, h3, h4, h5⟩ := st4_parts hb
          obtain ⟨d, hd⟩ := Option.isSome_iff_exists.1 h4
          have b0 := (parseO_back hd).1
          have b1 := (pnum_zero h1).1
          have b2 := (pnum_zero h2).1
          have b3 := sgO_back h5
          unfold StR.t stT stF
          dsimp only
          rw [hd, Option.getD_some, b0, b1, b2, b3]
          exact join_split S _ hs
        · rw [if_neg hb] at e1
          rw [e1] at h; exact absurd h (by decide)
    · rw [(stE_len hs (by omega) h4).1] at h; exact absurd h (by decide)
end Go.Proofs.YtaeopobofmpioaaGreatDoor

namespace Go.Proofs.YtaeopobofmpioaaGreatDoor
set_option linter.unusedSimpArgs false
set_option linter.unusedVariables false
open Go.RowKit
set_option linter.unusedVariables false
set_option linter.unusedSimpArgs false
theorem put_st (W : World) (cs : Array Value) (h : cs.size = 24) : ∃ W', (W.alloc (.cells (#[.int .u64 0, .int .i64 0, .int .i64 0, .int .i64 0, .int .i64 0, .int .u64 0, .int .u64 0, .int .u64 0, .int .u64 0, .int .u64 0, .int .u64 0, .int .u64 0, .int .u64 0, .int .u64 0, .int .u64 0, .int .u64 0, .int .u64 0, .int .u64 0, .int .u64 0, .int .u64 0, .int .u64 0, .int .u64 0, .int .u64 0, .slice none 0 0]) 44)).setCells W.heap.size 0 cs.toList = W' ∧ (W.alloc (.cells (#[.int .u64 0, .int .i64 0, .int .i64 0, .int .i64 0, .int .i64 0, .int .u64 0, .int .u64 0, .int .u64 0, .int .u64 0, .int .u64 0, .int .u64 0, .int .u64 0, .int .u64 0, .int .u64 0, .int .u64 0, .int .u64 0, .int .u64 0, .int .u64 0, .int .u64 0, .int .u64 0, .int .u64 0, .int .u64 0, .int .u64 0, .slice none 0 0]) 44)).there W.heap.size 0 cs.size ∧ Grew W W' ∧ Ag W' W.heap.size cs.toList :=
  ⟨_, rfl, by rw [h]; exact (Ag.new W 44 (#[.int .u64 0, .int .i64 0, .int .i64 0, .int .i64 0, .int .i64 0, .int .u64 0, .int .u64 0, .int .u64 0, .int .u64 0, .int .u64 0, .int .u64 0, .int .u64 0, .int .u64 0, .int .u64 0, .int .u64 0, .int .u64 0, .int .u64 0, .int .u64 0, .int .u64 0, .int .u64 0, .int .u64 0, .int .u64 0, .int .u64 0, .slice none 0 0])).thereN 24 rfl, setCells_grew (o := 0) (b := W.heap.size) cs.toList (grew_alloc (grew_refl W) _) (Nat.le_refl _), Ag.set (vs := cs.toList) (Ag.new W 44 (#[.int .u64 0, .int .i64 0, .int .i64 0, .int .i64 0, .int .i64 0, .int .u64 0, .int .u64 0, .int .u64 0, .int .u64 0, .int .u64 0, .int .u64 0, .int .u64 0, .int .u64 0, .int .u64 0, .int .u64 0, .int .u64 0, .int .u64 0, .int .u64 0, .int .u64 0, .int .u64 0, .int .u64 0, .int .u64 0, .int .u64 0, .slice none 0 0])) (by simp [h])⟩
theorem put_rst (W : World) (cs : Array Value) (h : cs.size = 24) : ∃ W', (W.alloc (.cells (#[.int .u64 0, .int .i64 0, .int .i64 0, .int .i64 0, .int .i64 0, .int .u64 0, .int .u64 0, .int .u64 0, .int .u64 0, .int .u64 0, .int .u64 0, .int .u64 0, .int .u64 0, .int .u64 0, .int .u64 0, .int .u64 0, .int .u64 0, .int .u64 0, .int .u64 0, .int .u64 0, .int .u64 0, .int .u64 0, .int .u64 0, .slice none 0 0]) 30)).setCells W.heap.size 0 cs.toList = W' ∧ (W.alloc (.cells (#[.int .u64 0, .int .i64 0, .int .i64 0, .int .i64 0, .int .i64 0, .int .u64 0, .int .u64 0, .int .u64 0, .int .u64 0, .int .u64 0, .int .u64 0, .int .u64 0, .int .u64 0, .int .u64 0, .int .u64 0, .int .u64 0, .int .u64 0, .int .u64 0, .int .u64 0, .int .u64 0, .int .u64 0, .int .u64 0, .int .u64 0, .slice none 0 0]) 30)).there W.heap.size 0 cs.size ∧ Grew W W' ∧ Ag W' W.heap.size cs.toList :=
  ⟨_, rfl, by rw [h]; exact (Ag.new W 30 (#[.int .u64 0, .int .i64 0, .int .i64 0, .int .i64 0, .int .i64 0, .int .u64 0, .int .u64 0, .int .u64 0, .int .u64 0, .int .u64 0, .int .u64 0, .int .u64 0, .int .u64 0, .int .u64 0, .int .u64 0, .int .u64 0, .int .u64 0, .int .u64 0, .int .u64 0, .int .u64 0, .int .u64 0, .int .u64 0, .int .u64 0, .slice none 0 0])).thereN 24 rfl, setCells_grew (o := 0) (b := W.heap.size) cs.toList (grew_alloc (grew_refl W) _) (Nat.le_refl _), Ag.set (vs := cs.toList) (Ag.new W 30 (#[.int .u64 0, .int .i64 0, .int .i64 0, .int .i64 0, .int .i64 0, .int .u64 0, .int .u64 0, .int .u64 0, .int .u64 0, .int .u64 0, .int .u64 0, .int .u64 0, .int .u64 0, .int .u64 0, .int .u64 0, .int .u64 0, .int .u64 0, .int .u64 0, .int .u64 0, .int .u64 0, .int .u64 0, .int .u64 0, .int .u64 0, .slice none 0 0])) (by simp [h])⟩
set_option maxRecDepth 100000 in
set_option maxHeartbeats 4000000 in
theorem stampWords_law (tj : ByteArray) (w : World) (hS : Std w) :
    Calls Tryz.prog 4 #[.string tj] w fun e w' => e = .returned (.bool true) ∧ Grew w w' := by
  have CK := Lib.hid (sknown_ok w hS)
  have HS := Lib.hid hS
  clear hS
  go_enter Tryz.func4, Tryz.ntmps4
  go_wp2_with fail
  refine (CK.out).mono ?_
  rintro e w1 ⟨rfl, G1⟩
  clear CK
  cases E1 : decide (2000 < (tj.size : Int))
  case true =>
    go_wp2_with fail
    go_ret
    exact ⟨rfl, G1⟩
  case false =>
  simp only [decide_eq_false_iff_not] at E1
  have HE := Lib.hid (show tj.size ≤ 2000 by omega)
  have CA := Lib.hid (stparse_any tj (by omega) w1 (HS.out.grew G1))
  have CB := Lib.hid (fun W => rstparse_any tj (by have := HE.out; omega) W)
  have HIN := Lib.hid (stO_in tj.data.toList)
  have HBK : Hid (stE tj.data.toList = 0 → (stO tj.data.toList).t = tj.data.toList) := Lib.hid stO_back
  have E1 : decide (2000 < (tj.size : Int)) = false := decide_eq_false E1
  generalize stE tj.data.toList = ex at *
  generalize stO tj.data.toList = X at *
  obtain ⟨cm, who, at_, ⟨sw, lf⟩, s, l⟩ := X
  unfold StR.v at CA CB
  unfold StR.t at HBK
  dsimp only at CA CB HBK
  have hur := Tryz.underlying30
  have huk := Tryz.underlying44
  go_wp2_with fail
  refine (CA.out).mono ?_
  rintro e w2 ⟨⟨A5, c5, rfl, r5, -⟩, g2⟩
  clear CA E1
  have G2 := grew_trans G1 g2
  obtain ⟨v2, hv2, th2, gs2, z2⟩ := put_st w2 (stC cm who at_ sw lf s (.slice A5 l.length c5)) rfl
  have HV2 := Lib.hid hv2
  have TH2 := Lib.hid th2
  have SI2 : Hid ((Tryz.prog.info? 44).map (·.size) = some (stC cm who at_ sw lf s (.slice A5 l.length c5)).size) := Lib.hid st_info
  have ON2 := Lib.hid (stC_one cm who at_ sw lf s A5 l.length c5)
  clear hv2 th2 g2 G1
  go_wp2_with (with_reducible refine wpList_store_mid rfl 44 (.tmp 3) (.tmp 15) rfl w2.heap.size 0 (stC cm who at_ sw lf s (.slice A5 l.length c5)) rfl rfl TH2.out SI2.out ON2.out ?_; rw [HV2.out])
  clear HV2 TH2 SI2 ON2
  have H2 := grew_trans G2 gs2
  have r5' := r5.gr gs2
  clear r5
  refine (CB.out v2).mono ?_
  rintro e w3 ⟨⟨A6, c6, rfl, r6, -⟩, g3⟩
  clear CB
  obtain ⟨v3, hv3, th3, gs3, z3⟩ := put_rst w3 (stC cm who at_ sw lf s (.slice A6 l.length c6)) rfl
  have HV3 := Lib.hid hv3
  have TH3 := Lib.hid th3
  have SI3 : Hid ((Tryz.prog.info? 30).map (·.size) = some (stC cm who at_ sw lf s (.slice A6 l.length c6)).size) := Lib.hid rst_info
  have ON3 := Lib.hid (stC_one cm who at_ sw lf s A6 l.length c6)
  clear hv3 th3
  go_upto_region 7 with (with_reducible refine wpList_store_mid rfl 30 (.tmp 5) (.tmp 20) rfl w3.heap.size 0 (stC cm who at_ sw lf s (.slice A6 l.length c6)) rfl rfl TH3.out SI3.out ON3.out ?_; rw [HV3.out])
  clear HV3 TH3 SI3 ON3
  have G8 := grew_trans H2 (grew_trans g3 gs3)
  have F1 := Lib.hid (z2.grew (grew_trans g3 gs3))
  have F2 := Lib.hid z3
  have F5 := Lib.hid (r5'.gr (grew_trans g3 gs3))
  have F6 := Lib.hid (r6.gr gs3)
  clear z2 r5' r6 z3 H2 g3 gs3 gs2 G2
  have hl8 : l.length ≤ 8 := HIN.out.len
  have CO1 := Lib.hid (fun W hR => stof_ok cm who at_ sw lf s A5 c5 l (by omega) W hR)
  have CS1 := Lib.hid (fun A3 c3 W h1 h2 => rstsame_ok cm who at_ sw lf s A3 A6 c3 c6 l (by omega) W h1 h2)
  have CX1 := Lib.hid (fun W hW hR => sttext_ok cm who at_ sw lf s A5 c5 l HIN.out.cm HIN.out.who HIN.out.at_ HIN.out.sw HIN.out.lf (by omega) HIN.out.s HIN.out.l W hW hR)
  have HM1 := Lib.hid (fun y (g : Grew v3 y) => (F1.out.grew g).cell)
  have HM2 := Lib.hid (fun y (g : Grew v3 y) => (F2.out.grew g).cell)
  have R5 := Lib.hid (fun y (g : Grew v3 y) => F5.out.gr g)
  have R6 := Lib.hid (fun y (g : Grew v3 y) => F6.out.gr g)
  have SL1 : Hid ((Tryz.prog.info? 44).map (·.size) = some (stC cm who at_ sw lf s (.slice A5 l.length c5)).toList.length) := Lib.hid st_info
  have SL2 : Hid ((Tryz.prog.info? 30).map (·.size) = some (stC cm who at_ sw lf s (.slice A6 l.length c6)).toList.length) := Lib.hid rst_info
  generalize stC cm who at_ sw lf s (.slice A5 l.length c5) = g1 at *
  generalize stC cm who at_ sw lf s (.slice A6 l.length c6) = g2 at *
  by_cases hex : ex = 0
  · have hbk := HBK.out hex
    have CX1' : Hid (∀ W, Std W → Rd W W.heap.size A5 (u64L l) → Calls Tryz.prog 24 #[.agg g1] W fun e w' => e = .returned (.string tj) ∧ Grew W w') := Lib.hid (fun W hW hR => by
      have := CX1.out W hW hR
      rw [hbk] at this
      exact this)
    clear CX1
    have CX1 := CX1'
    clear CX1' hbk HBK HIN
    subst hex
    refine wp_region_rel 19 (fun i => match i with
        | 0 => fun v _ => v = .int .i64 0
        | 1 => fun v _ => v = .int .i64 0
        | 2 => fun v _ => v = .bool true
        | 3 => fun v _ => v = .bool true
        | 4 => fun v _ => v = .agg g1
        | 5 => fun v w => AgT w 0 cm who at_ sw lf s l v
        | 6 => fun v _ => v = .agg g2
        | 7 => fun v _ => v = .bool true
        | 8 => fun v _ => v = .bool true
        | 9 => fun v _ => v = .bool true
        | 10 => fun v _ => v = .int .i64 0
        | 11 => fun v _ => v = .bool false
        | 12 => fun v _ => v = .bool false
        | 13 => fun v _ => v = .agg g1
        | 14 => fun v _ => v = .string tj
        | 15 => fun v _ => v = .string tj
        | 16 => fun v _ => v = .bool true
        | 17 => fun v _ => v = .bool true
        | 18 => fun v _ => v = .bool true
        | _ => fun _ _ => True) (by kernel_rfl) (by kernel_rfl) ?_ ?_ ?_
    · intro i v x y h hg
      match i, h with
      | 0, h | 1, h | 2, h | 3, h | 4, h | 6, h | 7, h | 8, h | 9, h | 10, h | 11, h | 12, h | 13, h | 14, h | 15, h | 16, h | 17, h | 18, h => exact h
      | 5, h => exact AgT.gr h hg
      | m + 19, _ => trivial
    · refine ⟨?_, ?_, ?_, ?_, ?_, ?_, ?_, ?_, ?_, ?_, ?_, ?_, ?_, ?_, ?_, ?_, ?_, ?_, ?_, trivial⟩
      · intro vs y hg hd
        simp only [actOf, List.take_succ_cons, List.take_zero, List.drop_succ_cons, List.drop_zero, Act.put, List.setIfInBounds_toArray, List.set_cons_succ, List.set_cons_zero, Nat.reduceAdd]
        go_wp2_with fail
        exact ⟨rfl, _, rfl, grew_refl _, rfl⟩
      · intro vs y hg hd
        simp only [actOf, List.take_succ_cons, List.take_zero, List.drop_succ_cons, List.drop_zero, Act.put, List.setIfInBounds_toArray, List.set_cons_succ, List.set_cons_zero, Nat.reduceAdd]
        go_wp2_with fail
        exact ⟨rfl, _, rfl, grew_refl _, rfl⟩
      · intro vs y hg hd
        obtain ⟨h0, h1, _⟩ := hd
        replace h0 := h0 rfl
        replace h1 := h1 rfl
        simp only [actOf, List.take_succ_cons, List.take_zero, List.drop_succ_cons, List.drop_zero, Act.put, List.setIfInBounds_toArray, List.set_cons_succ, List.set_cons_zero, Nat.reduceAdd]
        rw [show vs 0 = _ from h0, show vs 1 = _ from h1]
        go_wp2_with fail
        exact ⟨rfl, _, rfl, grew_refl _, rfl⟩
      · intro vs y hg hd
        obtain ⟨h2, _⟩ := hd
        replace h2 := h2 rfl
        simp only [actOf, List.take_succ_cons, List.take_zero, List.drop_succ_cons, List.drop_zero, Act.put, List.setIfInBounds_toArray, List.set_cons_succ, List.set_cons_zero, Nat.reduceAdd]
        rw [show vs 2 = _ from h2]
        go_wp2_with fail
        exact ⟨rfl, _, rfl, grew_refl _, rfl⟩
      · intro vs y hg hd
        have hx : (Region.binds .any { on := 3, ground := .guard } = true → vs 3 = .bool true) ∧ True := hd
        have h3 : vs 3 = .bool true := hx.1 rfl
        clear hx
        simp only [actOf, List.take_succ_cons, List.take_zero, List.drop_succ_cons, List.drop_zero, Act.put, List.setIfInBounds_toArray, List.set_cons_succ, List.set_cons_zero, Nat.reduceAdd]
        rw [show vs 3 = _ from h3]
        have hm := HM1.out y hg
        go_wp2_with (refine wpList_load_mid_want (by rfl) 44 (.tmp 3) rfl w2.heap.size 0 rfl g1.toList _ hm huk rfl SL1.out ?_; simp only [Array.toArray_toList])
        exact ⟨rfl, _, rfl, grew_refl _, rfl⟩
      · intro vs y hg hd
        have hx : (Region.binds .any { on := 4, ground := .data } = true → vs 4 = .agg g1) ∧ (Region.binds .any { on := 3, ground := .chain } = true → vs 3 = .bool true) ∧ (Region.binds .any { on := 3, ground := .guard } = true → vs 3 = .bool true) ∧ True := hd
        have h4 : vs 4 = .agg g1 := hx.1 rfl
        have h3 : vs 3 = .bool true := hx.2.2.1 rfl
        clear hx
        simp only [actOf, List.take_succ_cons, List.take_zero, List.drop_succ_cons, List.drop_zero, Act.put, List.setIfInBounds_toArray, List.set_cons_succ, List.set_cons_zero, Nat.reduceAdd]
        rw [show vs 4 = _ from h4, show vs 3 = _ from h3]
        go_wp2_with (go_at_call 31; refine (CO1.out y (R5.out y hg)).mono ?_; rintro e z ⟨A3, c3, rfl, hr9, gz, hb9⟩)
        exact ⟨rfl, _, rfl, gz, ⟨A3, c3, rfl, hr9, fun ad h => Nat.zero_le _⟩⟩
      · intro vs y hg hd
        have hx : (Region.binds .any { on := 3, ground := .guard } = true → vs 3 = .bool true) ∧ True := hd
        have h3 : vs 3 = .bool true := hx.1 rfl
        clear hx
        simp only [actOf, List.take_succ_cons, List.take_zero, List.drop_succ_cons, List.drop_zero, Act.put, List.setIfInBounds_toArray, List.set_cons_succ, List.set_cons_zero, Nat.reduceAdd]
        rw [show vs 3 = _ from h3]
        have hm := HM2.out y hg
        go_wp2_with (refine wpList_load_mid_want (by rfl) 30 (.tmp 5) rfl w3.heap.size 0 rfl g2.toList _ hm hur rfl SL2.out ?_; simp only [Array.toArray_toList])
        exact ⟨rfl, _, rfl, grew_refl _, rfl⟩
      · intro vs y hg hd
        have hx : (Region.binds .any { on := 5, ground := .data } = true → (fun v w => AgT w 0 cm who at_ sw lf s l v) (vs 5) y) ∧ (Region.binds .any { on := 6, ground := .data } = true → vs 6 = .agg g2) ∧ (Region.binds .any { on := 5, ground := .chain } = true → (fun v w => AgT w 0 cm who at_ sw lf s l v) (vs 5) y) ∧ (Region.binds .any { on := 3, ground := .guard } = true → vs 3 = .bool true) ∧ True := hd
        have h5 : (fun v w => AgT w 0 cm who at_ sw lf s l v) (vs 5) y := hx.1 rfl
        have h6 : vs 6 = .agg g2 := hx.2.1 rfl
        have h3 : vs 3 = .bool true := hx.2.2.2.1 rfl
        clear hx
        simp only [actOf, List.take_succ_cons, List.take_zero, List.drop_succ_cons, List.drop_zero, Act.put, List.setIfInBounds_toArray, List.set_cons_succ, List.set_cons_zero, Nat.reduceAdd]
        rw [show vs 6 = _ from h6, show vs 3 = _ from h3]
        obtain ⟨A3, c3, hv, hr9, hb9⟩ := AgT.out h5
        rw [hv]
        have hr2 := R6.out y hg
        go_wp2_with (go_at_call 30; refine (CS1.out A3 c3 y hr9 hr2).mono ?_; rintro e z ⟨rfl, gz⟩)
        exact ⟨rfl, _, rfl, gz, rfl⟩
      · intro vs y hg hd
        obtain ⟨h3, h7, _⟩ := hd
        replace h3 := h3 rfl
        replace h7 := h7 rfl
        simp only [actOf, List.take_succ_cons, List.take_zero, List.drop_succ_cons, List.drop_zero, Act.put, List.setIfInBounds_toArray, List.set_cons_succ, List.set_cons_zero, Nat.reduceAdd]
        rw [show vs 3 = _ from h3, show vs 7 = _ from h7]
        go_wp2_with fail
        exact ⟨rfl, _, rfl, grew_refl _, rfl⟩
      · intro vs y hg hd
        obtain ⟨h8, _⟩ := hd
        replace h8 := h8 rfl
        simp only [actOf, List.take_succ_cons, List.take_zero, List.drop_succ_cons, List.drop_zero, Act.put, List.setIfInBounds_toArray, List.set_cons_succ, List.set_cons_zero, Nat.reduceAdd]
        rw [show vs 8 = _ from h8]
        go_wp2_with fail
        exact ⟨rfl, _, rfl, grew_refl _, rfl⟩
      · intro vs y hg hd
        have hx : (Region.binds .any { on := 9, ground := .guard } = true → vs 9 = .bool true) ∧ True := hd
        have h9 : vs 9 = .bool true := hx.1 rfl
        clear hx
        simp only [actOf, List.take_succ_cons, List.take_zero, List.drop_succ_cons, List.drop_zero, Act.put, List.setIfInBounds_toArray, List.set_cons_succ, List.set_cons_zero, Nat.reduceAdd]
        rw [show vs 9 = _ from h9]
        go_wp2_with fail
        exact ⟨rfl, _, rfl, grew_refl _, rfl⟩
      · intro vs y hg hd
        have hx : (Region.binds .any { on := 10, ground := .data } = true → vs 10 = .int .i64 0) ∧ (Region.binds .any { on := 9, ground := .guard } = true → vs 9 = .bool true) ∧ True := hd
        have h10 : vs 10 = .int .i64 0 := hx.1 rfl
        have h9 : vs 9 = .bool true := hx.2.1 rfl
        clear hx
        simp only [actOf, List.take_succ_cons, List.take_zero, List.drop_succ_cons, List.drop_zero, Act.put, List.setIfInBounds_toArray, List.set_cons_succ, List.set_cons_zero, Nat.reduceAdd]
        rw [show vs 10 = _ from h10, show vs 9 = _ from h9]
        go_wp2_with fail
        exact ⟨rfl, _, rfl, grew_refl _, rfl⟩
      · intro vs y hg hd
        have hx : (Region.binds .any { on := 11, ground := .data } = true → vs 11 = .bool false) ∧ (Region.binds .any { on := 9, ground := .chain } = true → vs 9 = .bool true) ∧ (Region.binds .any { on := 9, ground := .guard } = true → vs 9 = .bool true) ∧ True := hd
        have h11 : vs 11 = .bool false := hx.1 rfl
        have h9 : vs 9 = .bool true := hx.2.2.1 rfl
        clear hx
        simp only [actOf, List.take_succ_cons, List.take_zero, List.drop_succ_cons, List.drop_zero, Act.put, List.setIfInBounds_toArray, List.set_cons_succ, List.set_cons_zero, Nat.reduceAdd]
        rw [show vs 11 = _ from h11, show vs 9 = _ from h9]
        go_wp2_with fail
        exact ⟨rfl, _, rfl, grew_refl _, rfl⟩
      · intro vs y hg hd
        have hx : (Region.binds .any { on := 12, ground := .guard } = true → vs 12 = .bool false) ∧ True := hd
        have h12 : vs 12 = .bool false := hx.1 rfl
        clear hx
        simp only [actOf, List.take_succ_cons, List.take_zero, List.drop_succ_cons, List.drop_zero, Act.put, List.setIfInBounds_toArray, List.set_cons_succ, List.set_cons_zero, Nat.reduceAdd]
        rw [show vs 12 = _ from h12]
        have hm := HM1.out y hg
        go_wp2_with (refine wpList_load_mid_want (by rfl) 44 (.tmp 3) rfl w2.heap.size 0 rfl g1.toList _ hm huk rfl SL1.out ?_; simp only [Array.toArray_toList])
        exact ⟨rfl, _, rfl, grew_refl _, rfl⟩
      · intro vs y hg hd
        have hx : (Region.binds .any { on := 13, ground := .data } = true → vs 13 = .agg g1) ∧ (Region.binds .any { on := 12, ground := .chain } = true → vs 12 = .bool false) ∧ (Region.binds .any { on := 12, ground := .guard } = true → vs 12 = .bool false) ∧ True := hd
        have h13 : vs 13 = .agg g1 := hx.1 rfl
        have h12 : vs 12 = .bool false := hx.2.2.1 rfl
        clear hx
        simp only [actOf, List.take_succ_cons, List.take_zero, List.drop_succ_cons, List.drop_zero, Act.put, List.setIfInBounds_toArray, List.set_cons_succ, List.set_cons_zero, Nat.reduceAdd]
        rw [show vs 13 = _ from h13, show vs 12 = _ from h12]
        go_wp2_with (go_at_call 24; refine (CX1.out y (HS.out.grew (grew_trans G8 hg)) (R5.out y hg)).mono ?_; rintro e z ⟨rfl, gz⟩)
        exact ⟨rfl, _, rfl, gz, rfl⟩
      · intro vs y hg hd
        have hx : (Region.binds .any { on := 12, ground := .guard } = true → vs 12 = .bool false) ∧ True := hd
        have h12 : vs 12 = .bool false := hx.1 rfl
        clear hx
        simp only [actOf, List.take_succ_cons, List.take_zero, List.drop_succ_cons, List.drop_zero, Act.put, List.setIfInBounds_toArray, List.set_cons_succ, List.set_cons_zero, Nat.reduceAdd]
        rw [show vs 12 = _ from h12]
        go_wp2_with fail
        exact ⟨rfl, _, rfl, grew_refl _, rfl⟩
      · intro vs y hg hd
        have hx : (Region.binds .any { on := 14, ground := .data } = true → vs 14 = .string tj) ∧ (Region.binds .any { on := 15, ground := .data } = true → vs 15 = .string tj) ∧ (Region.binds .any { on := 12, ground := .guard } = true → vs 12 = .bool false) ∧ True := hd
        have h14 : vs 14 = .string tj := hx.1 rfl
        have h15 : vs 15 = .string tj := hx.2.1 rfl
        have h12 : vs 12 = .bool false := hx.2.2.1 rfl
        clear hx
        simp only [actOf, List.take_succ_cons, List.take_zero, List.drop_succ_cons, List.drop_zero, Act.put, List.setIfInBounds_toArray, List.set_cons_succ, List.set_cons_zero, Nat.reduceAdd]
        rw [show vs 14 = _ from h14, show vs 15 = _ from h15, show vs 12 = _ from h12]
        go_wp2_with fail
        exact ⟨rfl, _, rfl, grew_refl _, by simp⟩
      · intro vs y hg hd
        have hx : (Region.binds .any { on := 12, ground := .data } = true → vs 12 = .bool false) ∧ (Region.binds .any { on := 16, ground := .data } = true → vs 16 = .bool true) ∧ (Region.binds .any { on := 9, ground := .guard } = true → vs 9 = .bool true) ∧ True := hd
        have h12 : vs 12 = .bool false := hx.1 rfl
        have h16 : vs 16 = .bool true := hx.2.1 rfl
        have h9 : vs 9 = .bool true := hx.2.2.1 rfl
        clear hx
        simp only [actOf, List.take_succ_cons, List.take_zero, List.drop_succ_cons, List.drop_zero, Act.put, List.setIfInBounds_toArray, List.set_cons_succ, List.set_cons_zero, Nat.reduceAdd]
        rw [show vs 12 = _ from h12, show vs 16 = _ from h16, show vs 9 = _ from h9]
        go_wp2_with fail
        exact ⟨rfl, _, rfl, grew_refl _, rfl⟩
      · intro vs y hg hd
        obtain ⟨h9, h17, _⟩ := hd
        replace h9 := h9 rfl
        replace h17 := h17 rfl
        simp only [actOf, List.take_succ_cons, List.take_zero, List.drop_succ_cons, List.drop_zero, Act.put, List.setIfInBounds_toArray, List.set_cons_succ, List.set_cons_zero, Nat.reduceAdd]
        rw [show vs 9 = _ from h9, show vs 17 = _ from h17]
        go_wp2_with fail
        exact ⟨rfl, _, rfl, grew_refl _, rfl⟩
    · intro vs y hg hJ
      have j0 : vs 0 = .int .i64 0 := hJ 0 (by decide)
      have j1 : vs 1 = .int .i64 0 := hJ 1 (by decide)
      have j2 : vs 2 = .bool true := hJ 2 (by decide)
      have j3 : vs 3 = .bool true := hJ 3 (by decide)
      have j4 : vs 4 = .agg g1 := hJ 4 (by decide)
      have j6 : vs 6 = .agg g2 := hJ 6 (by decide)
      have j7 : vs 7 = .bool true := hJ 7 (by decide)
      have j8 : vs 8 = .bool true := hJ 8 (by decide)
      have j9 : vs 9 = .bool true := hJ 9 (by decide)
      have j10 : vs 10 = .int .i64 0 := hJ 10 (by decide)
      have j11 : vs 11 = .bool false := hJ 11 (by decide)
      have j12 : vs 12 = .bool false := hJ 12 (by decide)
      have j13 : vs 13 = .agg g1 := hJ 13 (by decide)
      have j14 : vs 14 = .string tj := hJ 14 (by decide)
      have j15 : vs 15 = .string tj := hJ 15 (by decide)
      have j16 : vs 16 = .bool true := hJ 16 (by decide)
      have j17 : vs 17 = .bool true := hJ 17 (by decide)
      have j18 : vs 18 = .bool true := hJ 18 (by decide)
      have s27 := hJ 5 (by decide)
      clear hJ
      simp only [actOf, List.take_succ_cons, List.take_zero, List.drop_succ_cons, List.drop_zero, Act.put, List.setIfInBounds_toArray, List.set_cons_succ, List.set_cons_zero, Nat.reduceAdd]
      go_wp2_with fail
      go_ret
      exact ⟨rfl, grew_trans G8 hg⟩
  · have e1 : (ex != 0) = true := by simpa using hex
    have e2 : (ex == ex) = true := by simp
    clear HBK HIN hex CX1
    refine wp_region_rel 19 (fun i => match i with
        | 0 => fun v _ => v = .int .i64 ex
        | 1 => fun v _ => v = .int .i64 ex
        | 2 => fun v _ => v = .bool true
        | 3 => fun v _ => v = .bool true
        | 4 => fun v _ => v = .agg g1
        | 5 => fun v w => AgT w 0 cm who at_ sw lf s l v
        | 6 => fun v _ => v = .agg g2
        | 7 => fun v _ => v = .bool true
        | 8 => fun v _ => v = .bool true
        | 9 => fun v _ => v = .bool true
        | 10 => fun v _ => v = .int .i64 ex
        | 11 => fun v _ => v = .bool true
        | 12 => fun v _ => v = .bool true
        | 13 => fun v _ => v = undef
        | 14 => fun v _ => v = undef
        | 15 => fun v _ => v = undef
        | 16 => fun v _ => v = undef
        | 17 => fun v _ => v = .bool true
        | 18 => fun v _ => v = .bool true
        | _ => fun _ _ => True) (by kernel_rfl) (by kernel_rfl) ?_ ?_ ?_
    · intro i v x y h hg
      match i, h with
      | 0, h | 1, h | 2, h | 3, h | 4, h | 6, h | 7, h | 8, h | 9, h | 10, h | 11, h | 12, h | 13, h | 14, h | 15, h | 16, h | 17, h | 18, h => exact h
      | 5, h => exact AgT.gr h hg
      | m + 19, _ => trivial
    · refine ⟨?_, ?_, ?_, ?_, ?_, ?_, ?_, ?_, ?_, ?_, ?_, ?_, ?_, ?_, ?_, ?_, ?_, ?_, ?_, trivial⟩
      · intro vs y hg hd
        simp only [actOf, List.take_succ_cons, List.take_zero, List.drop_succ_cons, List.drop_zero, Act.put, List.setIfInBounds_toArray, List.set_cons_succ, List.set_cons_zero, Nat.reduceAdd]
        go_wp2_with fail
        exact ⟨rfl, _, rfl, grew_refl _, rfl⟩
      · intro vs y hg hd
        simp only [actOf, List.take_succ_cons, List.take_zero, List.drop_succ_cons, List.drop_zero, Act.put, List.setIfInBounds_toArray, List.set_cons_succ, List.set_cons_zero, Nat.reduceAdd]
        go_wp2_with fail
        exact ⟨rfl, _, rfl, grew_refl _, rfl⟩
      · intro vs y hg hd
        obtain ⟨h0, h1, _⟩ := hd
        replace h0 := h0 rfl
        replace h1 := h1 rfl
        simp only [actOf, List.take_succ_cons, List.take_zero, List.drop_succ_cons, List.drop_zero, Act.put, List.setIfInBounds_toArray, List.set_cons_succ, List.set_cons_zero, Nat.reduceAdd]
        rw [show vs 0 = _ from h0, show vs 1 = _ from h1]
        go_wp2_with fail
        exact ⟨rfl, _, rfl, grew_refl _, rfl⟩
      · intro vs y hg hd
        obtain ⟨h2, _⟩ := hd
        replace h2 := h2 rfl
        simp only [actOf, List.take_succ_cons, List.take_zero, List.drop_succ_cons, List.drop_zero, Act.put, List.setIfInBounds_toArray, List.set_cons_succ, List.set_cons_zero, Nat.reduceAdd]
        rw [show vs 2 = _ from h2]
        go_wp2_with fail
        exact ⟨rfl, _, rfl, grew_refl _, rfl⟩
      · intro vs y hg hd
        have hx : (Region.binds .any { on := 3, ground := .guard } = true → vs 3 = .bool true) ∧ True := hd
        have h3 : vs 3 = .bool true := hx.1 rfl
        clear hx
        simp only [actOf, List.take_succ_cons, List.take_zero, List.drop_succ_cons, List.drop_zero, Act.put, List.setIfInBounds_toArray, List.set_cons_succ, List.set_cons_zero, Nat.reduceAdd]
        rw [show vs 3 = _ from h3]
        have hm := HM1.out y hg
        go_wp2_with (refine wpList_load_mid_want (by rfl) 44 (.tmp 3) rfl w2.heap.size 0 rfl g1.toList _ hm huk rfl SL1.out ?_; simp only [Array.toArray_toList])
        exact ⟨rfl, _, rfl, grew_refl _, rfl⟩
      · intro vs y hg hd
        have hx : (Region.binds .any { on := 4, ground := .data } = true → vs 4 = .agg g1) ∧ (Region.binds .any { on := 3, ground := .chain } = true → vs 3 = .bool true) ∧ (Region.binds .any { on := 3, ground := .guard } = true → vs 3 = .bool true) ∧ True := hd
        have h4 : vs 4 = .agg g1 := hx.1 rfl
        have h3 : vs 3 = .bool true := hx.2.2.1 rfl
        clear hx
        simp only [actOf, List.take_succ_cons, List.take_zero, List.drop_succ_cons, List.drop_zero, Act.put, List.setIfInBounds_toArray, List.set_cons_succ, List.set_cons_zero, Nat.reduceAdd]
        rw [show vs 4 = _ from h4, show vs 3 = _ from h3]
        go_wp2_with (go_at_call 31; refine (CO1.out y (R5.out y hg)).mono ?_; rintro e z ⟨A3, c3, rfl, hr9, gz, hb9⟩)
        exact ⟨rfl, _, rfl, gz, ⟨A3, c3, rfl, hr9, fun ad h => Nat.zero_le _⟩⟩
      · intro vs y hg hd
        have hx : (Region.binds .any { on := 3, ground := .guard } = true → vs 3 = .bool true) ∧ True := hd
        have h3 : vs 3 = .bool true := hx.1 rfl
        clear hx
        simp only [actOf, List.take_succ_cons, List.take_zero, List.drop_succ_cons, List.drop_zero, Act.put, List.setIfInBounds_toArray, List.set_cons_succ, List.set_cons_zero, Nat.reduceAdd]
        rw [show vs 3 = _ from h3]
        have hm := HM2.out y hg
        go_wp2_with (refine wpList_load_mid_want (by rfl) 30 (.tmp 5) rfl w3.heap.size 0 rfl g2.toList _ hm hur rfl SL2.out ?_; simp only [Array.toArray_toList])
        exact ⟨rfl, _, rfl, grew_refl _, rfl⟩
      · intro vs y hg hd
        have hx : (Region.binds .any { on := 5, ground := .data } = true → (fun v w => AgT w 0 cm who at_ sw lf s l v) (vs 5) y) ∧ (Region.binds .any { on := 6, ground := .data } = true → vs 6 = .agg g2) ∧ (Region.binds .any { on := 5, ground := .chain } = true → (fun v w => AgT w 0 cm who at_ sw lf s l v) (vs 5) y) ∧ (Region.binds .any { on := 3, ground := .guard } = true → vs 3 = .bool true) ∧ True := hd
        have h5 : (fun v w => AgT w 0 cm who at_ sw lf s l v) (vs 5) y := hx.1 rfl
        have h6 : vs 6 = .agg g2 := hx.2.1 rfl
        have h3 : vs 3 = .bool true := hx.2.2.2.1 rfl
        clear hx
        simp only [actOf, List.take_succ_cons, List.take_zero, List.drop_succ_cons, List.drop_zero, Act.put, List.setIfInBounds_toArray, List.set_cons_succ, List.set_cons_zero, Nat.reduceAdd]
        rw [show vs 6 = _ from h6, show vs 3 = _ from h3]
        obtain ⟨A3, c3, hv, hr9, hb9⟩ := AgT.out h5
        rw [hv]
        have hr2 := R6.out y hg
        go_wp2_with (go_at_call 30; refine (CS1.out A3 c3 y hr9 hr2).mono ?_; rintro e z ⟨rfl, gz⟩)
        exact ⟨rfl, _, rfl, gz, rfl⟩
      · intro vs y hg hd
        obtain ⟨h3, h7, _⟩ := hd
        replace h3 := h3 rfl
        replace h7 := h7 rfl
        simp only [actOf, List.take_succ_cons, List.take_zero, List.drop_succ_cons, List.drop_zero, Act.put, List.setIfInBounds_toArray, List.set_cons_succ, List.set_cons_zero, Nat.reduceAdd]
        rw [show vs 3 = _ from h3, show vs 7 = _ from h7]
        go_wp2_with fail
        exact ⟨rfl, _, rfl, grew_refl _, rfl⟩
      · intro vs y hg hd
        obtain ⟨h8, _⟩ := hd
        replace h8 := h8 rfl
        simp only [actOf, List.take_succ_cons, List.take_zero, List.drop_succ_cons, List.drop_zero, Act.put, List.setIfInBounds_toArray, List.set_cons_succ, List.set_cons_zero, Nat.reduceAdd]
        rw [show vs 8 = _ from h8]
        go_wp2_with fail
        exact ⟨rfl, _, rfl, grew_refl _, rfl⟩
      · intro vs y hg hd
        have hx : (Region.binds .any { on := 9, ground := .guard } = true → vs 9 = .bool true) ∧ True := hd
        have h9 : vs 9 = .bool true := hx.1 rfl
        clear hx
        simp only [actOf, List.take_succ_cons, List.take_zero, List.drop_succ_cons, List.drop_zero, Act.put, List.setIfInBounds_toArray, List.set_cons_succ, List.set_cons_zero, Nat.reduceAdd]
        rw [show vs 9 = _ from h9]
        go_wp2_with fail
        exact ⟨rfl, _, rfl, grew_refl _, rfl⟩
      · intro vs y hg hd
        have hx : (Region.binds .any { on := 10, ground := .data } = true → vs 10 = .int .i64 ex) ∧ (Region.binds .any { on := 9, ground := .guard } = true → vs 9 = .bool true) ∧ True := hd
        have h10 : vs 10 = .int .i64 ex := hx.1 rfl
        have h9 : vs 9 = .bool true := hx.2.1 rfl
        clear hx
        simp only [actOf, List.take_succ_cons, List.take_zero, List.drop_succ_cons, List.drop_zero, Act.put, List.setIfInBounds_toArray, List.set_cons_succ, List.set_cons_zero, Nat.reduceAdd]
        rw [show vs 10 = _ from h10, show vs 9 = _ from h9]
        go_wp2_with fail
        exact ⟨rfl, _, rfl, grew_refl _, rfl⟩
      · intro vs y hg hd
        have hx : (Region.binds .any { on := 11, ground := .data } = true → vs 11 = .bool true) ∧ (Region.binds .any { on := 9, ground := .chain } = true → vs 9 = .bool true) ∧ (Region.binds .any { on := 9, ground := .guard } = true → vs 9 = .bool true) ∧ True := hd
        have h11 : vs 11 = .bool true := hx.1 rfl
        have h9 : vs 9 = .bool true := hx.2.2.1 rfl
        clear hx
        simp only [actOf, List.take_succ_cons, List.take_zero, List.drop_succ_cons, List.drop_zero, Act.put, List.setIfInBounds_toArray, List.set_cons_succ, List.set_cons_zero, Nat.reduceAdd]
        rw [show vs 11 = _ from h11, show vs 9 = _ from h9]
        go_wp2_with fail
        exact ⟨rfl, _, rfl, grew_refl _, rfl⟩
      · intro vs y hg hd
        have hx : (Region.binds .any { on := 12, ground := .guard } = true → vs 12 = .bool true) ∧ True := hd
        have h12 : vs 12 = .bool true := hx.1 rfl
        clear hx
        simp only [actOf, List.take_succ_cons, List.take_zero, List.drop_succ_cons, List.drop_zero, Act.put, List.setIfInBounds_toArray, List.set_cons_succ, List.set_cons_zero, Nat.reduceAdd]
        rw [show vs 12 = _ from h12]
        go_wp2_with fail
        exact ⟨rfl, _, rfl, grew_refl _, rfl⟩
      · intro vs y hg hd
        have hx : (Region.binds .any { on := 13, ground := .data } = true → vs 13 = undef) ∧ (Region.binds .any { on := 12, ground := .chain } = true → vs 12 = .bool true) ∧ (Region.binds .any { on := 12, ground := .guard } = true → vs 12 = .bool true) ∧ True := hd
        have h13 : vs 13 = undef := hx.1 rfl
        have h12 : vs 12 = .bool true := hx.2.2.1 rfl
        clear hx
        simp only [actOf, List.take_succ_cons, List.take_zero, List.drop_succ_cons, List.drop_zero, Act.put, List.setIfInBounds_toArray, List.set_cons_succ, List.set_cons_zero, Nat.reduceAdd]
        rw [show vs 13 = _ from h13, show vs 12 = _ from h12]
        go_wp2_with fail
        exact ⟨rfl, _, rfl, grew_refl _, rfl⟩
      · intro vs y hg hd
        have hx : (Region.binds .any { on := 12, ground := .guard } = true → vs 12 = .bool true) ∧ True := hd
        have h12 : vs 12 = .bool true := hx.1 rfl
        clear hx
        simp only [actOf, List.take_succ_cons, List.take_zero, List.drop_succ_cons, List.drop_zero, Act.put, List.setIfInBounds_toArray, List.set_cons_succ, List.set_cons_zero, Nat.reduceAdd]
        rw [show vs 12 = _ from h12]
        go_wp2_with fail
        exact ⟨rfl, _, rfl, grew_refl _, rfl⟩
      · intro vs y hg hd
        have hx : (Region.binds .any { on := 14, ground := .data } = true → vs 14 = undef) ∧ (Region.binds .any { on := 15, ground := .data } = true → vs 15 = undef) ∧ (Region.binds .any { on := 12, ground := .guard } = true → vs 12 = .bool true) ∧ True := hd
        have h14 : vs 14 = undef := hx.1 rfl
        have h15 : vs 15 = undef := hx.2.1 rfl
        have h12 : vs 12 = .bool true := hx.2.2.1 rfl
        clear hx
        simp only [actOf, List.take_succ_cons, List.take_zero, List.drop_succ_cons, List.drop_zero, Act.put, List.setIfInBounds_toArray, List.set_cons_succ, List.set_cons_zero, Nat.reduceAdd]
        rw [show vs 14 = _ from h14, show vs 15 = _ from h15, show vs 12 = _ from h12]
        go_wp2_with fail
        exact ⟨rfl, _, rfl, grew_refl _, rfl⟩
      · intro vs y hg hd
        have hx : (Region.binds .any { on := 12, ground := .data } = true → vs 12 = .bool true) ∧ (Region.binds .any { on := 16, ground := .data } = true → vs 16 = undef) ∧ (Region.binds .any { on := 9, ground := .guard } = true → vs 9 = .bool true) ∧ True := hd
        have h12 : vs 12 = .bool true := hx.1 rfl
        have h16 : vs 16 = undef := hx.2.1 rfl
        have h9 : vs 9 = .bool true := hx.2.2.1 rfl
        clear hx
        simp only [actOf, List.take_succ_cons, List.take_zero, List.drop_succ_cons, List.drop_zero, Act.put, List.setIfInBounds_toArray, List.set_cons_succ, List.set_cons_zero, Nat.reduceAdd]
        rw [show vs 12 = _ from h12, show vs 16 = _ from h16, show vs 9 = _ from h9]
        go_wp2_with fail
        exact ⟨rfl, _, rfl, grew_refl _, rfl⟩
      · intro vs y hg hd
        obtain ⟨h9, h17, _⟩ := hd
        replace h9 := h9 rfl
        replace h17 := h17 rfl
        simp only [actOf, List.take_succ_cons, List.take_zero, List.drop_succ_cons, List.drop_zero, Act.put, List.setIfInBounds_toArray, List.set_cons_succ, List.set_cons_zero, Nat.reduceAdd]
        rw [show vs 9 = _ from h9, show vs 17 = _ from h17]
        go_wp2_with fail
        exact ⟨rfl, _, rfl, grew_refl _, rfl⟩
    · intro vs y hg hJ
      have j0 : vs 0 = .int .i64 ex := hJ 0 (by decide)
      have j1 : vs 1 = .int .i64 ex := hJ 1 (by decide)
      have j2 : vs 2 = .bool true := hJ 2 (by decide)
      have j3 : vs 3 = .bool true := hJ 3 (by decide)
      have j4 : vs 4 = .agg g1 := hJ 4 (by decide)
      have j6 : vs 6 = .agg g2 := hJ 6 (by decide)
      have j7 : vs 7 = .bool true := hJ 7 (by decide)
      have j8 : vs 8 = .bool true := hJ 8 (by decide)
      have j9 : vs 9 = .bool true := hJ 9 (by decide)
      have j10 : vs 10 = .int .i64 ex := hJ 10 (by decide)
      have j11 : vs 11 = .bool true := hJ 11 (by decide)
      have j12 : vs 12 = .bool true := hJ 12 (by decide)
      have j13 : vs 13 = undef := hJ 13 (by decide)
      have j14 : vs 14 = undef := hJ 14 (by decide)
      have j15 : vs 15 = undef := hJ 15 (by decide)
      have j16 : vs 16 = undef := hJ 16 (by decide)
      have j17 : vs 17 = .bool true := hJ 17 (by decide)
      have j18 : vs 18 = .bool true := hJ 18 (by decide)
      have s27 := hJ 5 (by decide)
      clear hJ
      simp only [actOf, List.take_succ_cons, List.take_zero, List.drop_succ_cons, List.drop_zero, Act.put, List.setIfInBounds_toArray, List.set_cons_succ, List.set_cons_zero, Nat.reduceAdd]
      go_wp2_with fail
      go_ret
      exact ⟨rfl, grew_trans G8 hg⟩
end Go.Proofs.YtaeopobofmpioaaGreatDoor

namespace Go.Proofs.YtaeopobofmpioaaGreatDoor
set_option linter.unusedSimpArgs false
set_option linter.unusedVariables false
open Go.RowKit
set_option linter.unusedVariables false
set_option linter.unusedSimpArgs false
structure KV (w : World) (B : Nat) (f : Int) (R : List Nat) (h : Int) (v : Value) : Prop where
  out : ∃ A c, v = .agg (kyS f A R.length c h) ∧ Rd w w.heap.size A (u64L R) ∧ (∀ ad, A = some ad → B ≤ ad.block)
theorem KV.gr {w w' : World} {B : Nat} {f : Int} {R : List Nat} {h : Int} {v : Value} (k : KV w B f R h v) (g : Grew w w') : KV w' B f R h v := by
  obtain ⟨A, c, h1, h2, h3⟩ := k.out
  exact ⟨A, c, h1, h2.gr g, h3⟩
theorem rk_built (f h : Int) (A : Option Addr) (n c : Nat) : Tryz.prog.built 24 [(0, .int .i64 f), (1, .slice A n c), (2, .int .i64 h)] = some (kyS f A n c h) := by kernel_rfl
theorem rk_info : (Tryz.prog.info? 24).map (·.size) = some 3 := by kernel_rfl
theorem kyS_one (f h : Int) (A : Option Addr) (n c : Nat) : (kyS f A n c h).all (·.oneCell') = true := by simp [kyS, Value.oneCell']
set_option maxRecDepth 100000 in
set_option maxHeartbeats 1000000 in
theorem ofkeys_ok (f : Int) (R : List Nat) (RA : Option Addr) (Rc : Nat) (h : Int) (hl : R.length ≤ 1048576) (w : World) (hr : Rd w w.heap.size RA (u64L R)) :
    Calls Tryz.prog 35 #[.agg (kyS f RA R.length Rc h)] w fun e w' => ∃ A' c', e = .returned (.agg (kyS f A' R.length c' h)) ∧ Rd w' w'.heap.size A' (u64L R) ∧ Grew w w' := by
  have z0 := Ag.new w 36 (kyS f RA R.length Rc h)
  have G0 := grew_alloc (grew_refl w) (.cells (kyS f RA R.length Rc h) 36)
  have hur := Tryz.underlying24
  have CO := Lib.hid (fun W hR => mkof_any RA Rc _ R hl W hR (Nat.le_refl _))
  go_enter Tryz.func35, Tryz.ntmps35
  go_wp2_with fail
  have z2 : Ag ((w.alloc (.cells (kyS f RA R.length Rc h) 36)).alloc (.cells (#[.int .i64 0, .slice none 0 0, .int .i64 0]) 24)) (w.heap.size + 1) (#[.int .i64 0, .slice none 0 0, .int .i64 0] : Array Value).toList := by
    have := Ag.new (w.alloc (.cells (kyS f RA R.length Rc h) 36)) 24 (#[.int .i64 0, .slice none 0 0, .int .i64 0])
    simpa using this
  have z1 := z0.grew (grew_alloc (grew_refl _) (.cells (#[.int .i64 0, .slice none 0 0, .int .i64 0]) 24))
  have G2 := grew_alloc G0 (.cells (#[.int .i64 0, .slice none 0 0, .int .i64 0]) 24)
  clear z0 G0
  generalize (w.alloc (.cells (kyS f RA R.length Rc h) 36)).alloc (.cells (#[.int .i64 0, .slice none 0 0, .int .i64 0]) 24) = w2 at *
  have HC0 : Hid (∀ y, Grew w2 y → y.cell? ⟨w.heap.size, 0, none⟩ = some (.int .i64 f)) := Lib.hid (fun y g => by simpa using (z1.grew g).cell 0 _ rfl)
  have HC1 : Hid (∀ y, Grew w2 y → y.cell? ⟨w.heap.size, 1, none⟩ = some (.slice RA R.length Rc)) := Lib.hid (fun y g => by simpa using (z1.grew g).cell 1 _ rfl)
  have HC2 : Hid (∀ y, Grew w2 y → y.cell? ⟨w.heap.size, 2, none⟩ = some (.int .i64 h)) := Lib.hid (fun y g => by simpa using (z1.grew g).cell 2 _ rfl)
  have r2 := hr.gr G2
  have HRY := Lib.hid (fun y (g : Grew w2 y) => r2.gr g)
  clear z1 hr r2
  refine wp_region_rel 9 (fun i => match i with
      | 0 => fun v _ => v = .pointer (some ⟨w.heap.size, 0, none⟩)
      | 1 => fun v _ => v = .pointer (some ⟨w.heap.size, 0, none⟩)
      | 2 => fun v _ => v = .int .i64 f
      | 3 => fun v _ => v = .pointer (some ⟨w.heap.size, 1, none⟩)
      | 4 => fun v _ => v = .slice RA R.length Rc
      | 5 => fun v w => PV w w2.heap.size R v
      | 6 => fun v _ => v = .pointer (some ⟨w.heap.size, 2, none⟩)
      | 7 => fun v _ => v = .int .i64 h
      | 8 => fun v w => KV w w2.heap.size f R h v
      | _ => fun _ _ => True) (by kernel_rfl) (by kernel_rfl) ?_ ?_ ?_
  · intro i v x y h hg
    match i, h with
    | 0, h | 1, h | 2, h | 3, h | 4, h | 6, h | 7, h => exact h
    | 5, h => exact PV.gr h hg
    | 8, h => exact KV.gr h hg
    | m + 9, _ => trivial
  · refine ⟨?_, ?_, ?_, ?_, ?_, ?_, ?_, ?_, ?_, trivial⟩
    · intro vs y hg hd
      simp only [actOf, List.take_succ_cons, List.take_zero, List.drop_succ_cons, List.drop_zero, Act.put, List.setIfInBounds_toArray, List.set_cons_succ, List.set_cons_zero, Nat.reduceAdd]
      go_wp2_with fail
      exact ⟨rfl, _, rfl, grew_refl _, rfl⟩
    · intro vs y hg hd
      obtain ⟨h0, _⟩ := hd
      replace h0 := h0 rfl
      simp only [actOf, List.take_succ_cons, List.take_zero, List.drop_succ_cons, List.drop_zero, Act.put, List.setIfInBounds_toArray, List.set_cons_succ, List.set_cons_zero, Nat.reduceAdd]
      rw [show vs 0 = _ from h0]
      go_wp2_with fail
      exact ⟨rfl, _, rfl, grew_refl _, rfl⟩
    · intro vs y hg hd
      obtain ⟨h1, _⟩ := hd
      replace h1 := h1 rfl
      simp only [actOf, List.take_succ_cons, List.take_zero, List.drop_succ_cons, List.drop_zero, Act.put, List.setIfInBounds_toArray, List.set_cons_succ, List.set_cons_zero, Nat.reduceAdd]
      rw [show vs 1 = _ from h1]
      have hc := HC0.out y hg
      go_wp2_with fail
      exact ⟨rfl, _, rfl, grew_refl _, rfl⟩
    · intro vs y hg hd
      simp only [actOf, List.take_succ_cons, List.take_zero, List.drop_succ_cons, List.drop_zero, Act.put, List.setIfInBounds_toArray, List.set_cons_succ, List.set_cons_zero, Nat.reduceAdd]
      go_wp2_with fail
      exact ⟨rfl, _, rfl, grew_refl _, rfl⟩
    · intro vs y hg hd
      obtain ⟨h3, _⟩ := hd
      replace h3 := h3 rfl
      simp only [actOf, List.take_succ_cons, List.take_zero, List.drop_succ_cons, List.drop_zero, Act.put, List.setIfInBounds_toArray, List.set_cons_succ, List.set_cons_zero, Nat.reduceAdd]
      rw [show vs 3 = _ from h3]
      have hc := HC1.out y hg
      go_wp2_with fail
      exact ⟨rfl, _, rfl, grew_refl _, rfl⟩
    · intro vs y hg hd
      obtain ⟨h4, _⟩ := hd
      replace h4 := h4 rfl
      simp only [actOf, List.take_succ_cons, List.take_zero, List.drop_succ_cons, List.drop_zero, Act.put, List.setIfInBounds_toArray, List.set_cons_succ, List.set_cons_zero, Nat.reduceAdd]
      rw [show vs 4 = _ from h4]
      go_wp2_with (go_at_call 100; refine (CO.out y (HRY.out y hg)).mono ?_; rintro e z ⟨A2, c2, rfl, hr2, hb2, gz⟩)
      exact ⟨rfl, _, rfl, gz, ⟨A2, c2, rfl, hr2, fun ad h => by have := hb2 ad h; have := hg.size; omega⟩⟩
    · intro vs y hg hd
      simp only [actOf, List.take_succ_cons, List.take_zero, List.drop_succ_cons, List.drop_zero, Act.put, List.setIfInBounds_toArray, List.set_cons_succ, List.set_cons_zero, Nat.reduceAdd]
      go_wp2_with fail
      exact ⟨rfl, _, rfl, grew_refl _, rfl⟩
    · intro vs y hg hd
      obtain ⟨h6, _⟩ := hd
      replace h6 := h6 rfl
      simp only [actOf, List.take_succ_cons, List.take_zero, List.drop_succ_cons, List.drop_zero, Act.put, List.setIfInBounds_toArray, List.set_cons_succ, List.set_cons_zero, Nat.reduceAdd]
      rw [show vs 6 = _ from h6]
      have hc := HC2.out y hg
      go_wp2_with fail
      exact ⟨rfl, _, rfl, grew_refl _, rfl⟩
    · intro vs y hg hd
      obtain ⟨h2, h5, h7, _⟩ := hd
      replace h2 := h2 rfl
      replace h5 := h5 rfl
      replace h7 := h7 rfl
      simp only [actOf, List.take_succ_cons, List.take_zero, List.drop_succ_cons, List.drop_zero, Act.put, List.setIfInBounds_toArray, List.set_cons_succ, List.set_cons_zero, Nat.reduceAdd]
      rw [show vs 2 = _ from h2, show vs 7 = _ from h7]
      obtain ⟨A2, c2, hv, hr2, hb2⟩ := PV.out h5
      rw [hv]
      have HBU := Lib.hid (rk_built f h A2 R.length c2)
      go_wp2_with (with_reducible refine wpList_build_is rfl 24 #[(0, .tmp 5), (1, .tmp 8), (2, .tmp 10)] rfl (kyS f A2 R.length c2 h) ?_ ?_; · simpa [Act.eval, Act.put] using HBU.out)
      exact ⟨rfl, _, rfl, grew_refl _, ⟨A2, c2, rfl, hr2, hb2⟩⟩
  · intro vs y hg hJ
    have j0 : vs 0 = .pointer (some ⟨w.heap.size, 0, none⟩) := hJ 0 (by decide)
    have j1 : vs 1 = .pointer (some ⟨w.heap.size, 0, none⟩) := hJ 1 (by decide)
    have j2 : vs 2 = .int .i64 f := hJ 2 (by decide)
    have j3 : vs 3 = .pointer (some ⟨w.heap.size, 1, none⟩) := hJ 3 (by decide)
    have j4 : vs 4 = .slice RA R.length Rc := hJ 4 (by decide)
    have j6 : vs 6 = .pointer (some ⟨w.heap.size, 2, none⟩) := hJ 6 (by decide)
    have j7 : vs 7 = .int .i64 h := hJ 7 (by decide)
    have s8 := hJ 5 (by decide)
    have s11 := hJ 8 (by decide)
    clear hJ
    simp only [actOf, List.take_succ_cons, List.take_zero, List.drop_succ_cons, List.drop_zero, Act.put, List.setIfInBounds_toArray, List.set_cons_succ, List.set_cons_zero, Nat.reduceAdd]
    obtain ⟨A2, c2, j9, r3, hb3⟩ := KV.out s11
    rw [j9]
    clear s8 s11 j9
    have hz1 := z2.lt
    have HNE : Hid (∀ ad, A2 = some ad → ad.block ≠ w.heap.size + 1) := Lib.hid (fun ad h => by have := hb3 ad h; omega)
    have z3 := z2.grew hg
    have G3 := grew_trans G2 hg
    clear z2 G2 hg hb3 hz1
    have HTH : Hid (y.there (w.heap.size + 1) 0 (kyS f A2 R.length c2 h).size) := Lib.hid (z3.thereN 3 rfl)
    have HSI : Hid ((Tryz.prog.info? 24).map (·.size) = some (kyS f A2 R.length c2 h).size) := Lib.hid rk_info
    have HON := Lib.hid (kyS_one f h A2 R.length c2)
    have K3 := setCells_kp (kyS f A2 R.length c2 h).toList (w.heap.size + 1) 0 y
    have r4 := (r3.kp K3 (Nat.le_refl _) (fun ad h1 h2 h3 => HNE.out ad h1 h3)).more K3.size
    have z4 := Ag.set (vs := (kyS f A2 R.length c2 h).toList) z3 rfl
    have G4 := setCells_grew (o := 0) (b := w.heap.size + 1) (kyS f A2 R.length c2 h).toList G3 (by omega)
    go_wp2_with (with_reducible refine wpList_store_mid rfl 24 (.tmp 2) (.tmp 11) rfl (w.heap.size + 1) 0 (kyS f A2 R.length c2 h) rfl rfl HTH.out HSI.out HON.out ?_)
    exact bodyPost_ret (results_ag1 Tryz.results35 _ _ (w.heap.size + 1) _ _ rfl z4 hur rfl rk_info) rfl ⟨A2, ⟨c2, rfl⟩, r4, G4⟩
def whB (f who : Int) : Bool := decide (0 ≤ who ∧ who < 3 * f + 1)
set_option maxRecDepth 100000 in
theorem rwho_ok (f : Int) (hf : 1 ≤ f ∧ f ≤ 3) (RA : Option Addr) (n Rc : Nat) (h who : Int) (w : World) :
    Calls Tryz.prog 83 #[.agg (kyS f RA n Rc h), .int .i64 who] w fun e w' => e = .returned (.bool (whB f who)) ∧ Grew w w' := by
  have z0 := Ag.new w 24 (kyS f RA n Rc h)
  have G0 := grew_alloc (grew_refl w) (.cells (kyS f RA n Rc h) 24)
  have c0 : (w.alloc (.cells (kyS f RA n Rc h) 24)).cell? ⟨w.heap.size, 0, none⟩ = some (.int .i64 f) := by simpa using z0.cell 0 _ rfl
  have CN := Lib.hid (fun W => rn_ok f hf W)
  obtain ⟨nn, hnn⟩ : ∃ nn, 3 * f + 1 = nn := ⟨_, rfl⟩
  have HB : Hid (whB f who = decide (0 ≤ who ∧ who < nn)) := Lib.hid (by unfold whB; rw [hnn])
  rw [hnn] at CN
  clear z0 hnn hf
  by_cases h0 : 0 ≤ who
  · by_cases h1 : who < nn
    · have e0 : decide (0 ≤ who) = true := decide_eq_true h0
      have e1 : decide (who < nn) = true := decide_eq_true h1
      rw [HB.out, decide_eq_true ⟨h0, h1⟩]
      clear HB
      go_enter Tryz.func83, Tryz.ntmps83
      go_wp2_with (go_at_call 70; refine (CN.out _).mono ?_; rintro e z ⟨rfl, hz⟩; rw [hz]; clear hz)
      go_ret
      exact ⟨rfl, G0⟩
    · have e0 : decide (0 ≤ who) = true := decide_eq_true h0
      have e1 : decide (who < nn) = false := decide_eq_false h1
      rw [HB.out, decide_eq_false (by omega)]
      clear HB
      go_enter Tryz.func83, Tryz.ntmps83
      go_wp2_with (go_at_call 70; refine (CN.out _).mono ?_; rintro e z ⟨rfl, hz⟩; rw [hz]; clear hz)
      go_ret
      exact ⟨rfl, G0⟩
  · have e0 : decide (0 ≤ who) = false := decide_eq_false h0
    rw [HB.out, decide_eq_false (by omega)]
    clear HB
    go_enter Tryz.func83, Tryz.ntmps83
    go_wp2_with fail
    go_ret
    exact ⟨rfl, G0⟩
set_option maxRecDepth 100000 in
set_option maxHeartbeats 2000000 in
theorem rsigned_ok (f : Int) (R : List Nat) (RA : Option Addr) (Rc : Nat) (h : Int) (n d : Nat) (sw lf : Int) (s : Nat → Nat) (A : Option Addr) (c : Nat) (l : List Nat) (hn : n ≤ 1000) (hlf : in64 lf) (hl : l.length ≤ 1000) (hs : ∀ k, k < 18 → s k < 18446744073709551616) (hb : ∀ x ∈ l, x < 18446744073709551616) (hd : d < 18446744073709551616)
    (hRl : R.length ≤ 1000) (w : World) (hrR : Rd w w.heap.size RA (u64L R)) (hrl : Rd w w.heap.size A (u64L l)) :
    Calls Tryz.prog 84 #[.agg (kyS f RA R.length Rc h), .int .i64 (n : Int), .agg (sgC sw lf s (.slice A l.length c)), .int .u64 (d : Nat)] w fun e w' => e = .returned (.bool (decide (ckE R h n d sw lf s l = 0))) ∧ Grew w w' := by
  have z1 := (Ag.new w 24 (kyS f RA R.length Rc h)).grew (grew_alloc (grew_refl _) (.cells (sgC sw lf s (.slice A l.length c)) 28))
  have z2 := Ag.new (w.alloc (.cells (kyS f RA R.length Rc h) 24)) 28 (sgC sw lf s (.slice A l.length c))
  rw [alloc_size] at z2
  have G0 := grew_alloc (grew_alloc (grew_refl w) (.cells (kyS f RA R.length Rc h) 24)) (.cells (sgC sw lf s (.slice A l.length c)) 28)
  have hug := Tryz.underlying28
  have HSL : Hid ((Tryz.prog.info? 28).map (·.size) = some (sgC sw lf s (.slice A l.length c)).toList.length) := Lib.hid rg_info
  have CV := Lib.hid (fun W hR => refvsig_ok (R.getD n 0) sw lf s A c l (d : Int) h (by omega) hlf hs hb ⟨by omega, by omega⟩ W hR)
  have HLL := Lib.hid hrl
  have HRR := Lib.hid hrR
  have HCK : Hid (∀ b, (decide (sw = (n : Int)) && decide (n < R.length) && vrS (R.getD n 0) lf s l (d : Int) h) = b → decide (ckE R h n d sw lf s l = 0) = b) := Lib.hid (fun b hb => by
    rw [← hb]
    unfold ckE
    by_cases a1 : R.length ≤ n
    · rw [if_pos a1]
      have : ¬ n < R.length := by omega
      simp [this]
    · rw [if_neg a1]
      have a1' : n < R.length := by omega
      by_cases a2 : sw = (n : Int)
      · rw [if_pos a2]
        cases hv : vrS (R.getD n 0) lf s l (d : Int) h <;> simp [a2, a1']
      · rw [if_neg a2]; simp [a2])
  clear hrR hrl hs hb hlf hl hd
  go_enter Tryz.func84, Tryz.ntmps84
  go_wp2_with fail
  generalize (w.alloc (.cells (kyS f RA R.length Rc h) 24)).alloc (.cells (sgC sw lf s (.slice A l.length c)) 28) = w1 at *
  have k1 : ∀ y : Gr w1, y.val.cell? ⟨w.heap.size, 1, none⟩ = some (.slice RA R.length Rc) := fun y => by simpa using (z1.gr y).cell 1 _ rfl
  have k2 : ∀ y : Gr w1, y.val.cell? ⟨w.heap.size, 2, none⟩ = some (.int .i64 h) := fun y => by simpa using (z1.gr y).cell 2 _ rfl
  have k0 : ∀ y : Gr w1, y.val.cell? ⟨w.heap.size + 1, 0, none⟩ = some (.int .i64 sw) := fun y => by simpa using (z2.gr y).cell 0 _ rfl
  have M2 : Hid (∀ y : Gr w1, y.val.rangeAt (w.heap.size + 1) 0 (sgC sw lf s (.slice A l.length c)).toList) := Lib.hid (fun y => (z2.gr y).cell)
  have RL : Hid (∀ y : Gr w1, Rd y.val y.val.heap.size A (u64L l)) := Lib.hid (fun y => (HLL.out.gr G0).gr y.ok)
  have hn0 : (0 : Int) ≤ (n : Int) := by omega
  have g0 : decide ((0 : Int) ≤ (n : Int)) = true := decide_eq_true hn0
  clear z1 z2 HLL
  by_cases a2 : sw = (n : Int)
  case neg =>
    have e2 : (sw == (n : Int)) = false := by simpa using a2
    have HE := HCK.out false (by simp [a2])
    clear HCK a2 HRR
    refine wp_region_grew (grew_refl w1) (by kernel_rfl) (by kernel_rfl) ?_
    repeat (first
      | (go_big_quiet_want; refine quiet_load_mid 28 (.tmp 6) rfl (w.heap.size + 1) 0 rfl (sgC sw lf s (.slice A l.length c)).toList _ M2.out hug rfl HSL.out ?_; simp only [Act.put, List.setIfInBounds_toArray, List.set_cons_succ, List.set_cons_zero, Array.toArray_toList]; go_big_quiet_on)
      | (go_big_quiet_step (first
        | (go_at_call 138; exact callG (CV.out _ (RL.out _))))))
    refine wpQuiet_nil ?_
    rintro w8 ⟨⟨w8', g8⟩, rfl⟩
    go_wp2_with fail
    go_ret
    exact ⟨by rw [HE]; rfl, grew_trans G0 g8⟩
  have e2 : (sw == (n : Int)) = true := by simpa using a2
  by_cases a1 : n < R.length
  case neg =>
    have e1 : decide (n < R.length) = false := decide_eq_false a1
    have HE := HCK.out false (by simp [a1])
    clear HCK a2 HRR a1
    refine wp_region_grew (grew_refl w1) (by kernel_rfl) (by kernel_rfl) ?_
    repeat (first
      | (go_big_quiet_want; refine quiet_load_mid 28 (.tmp 6) rfl (w.heap.size + 1) 0 rfl (sgC sw lf s (.slice A l.length c)).toList _ M2.out hug rfl HSL.out ?_; simp only [Act.put, List.setIfInBounds_toArray, List.set_cons_succ, List.set_cons_zero, Array.toArray_toList]; go_big_quiet_on)
      | (go_big_quiet_step (first
        | (go_at_call 138; exact callG (CV.out _ (RL.out _))))))
    refine wpQuiet_nil ?_
    rintro w8 ⟨⟨w8', g8⟩, rfl⟩
    go_wp2_with fail
    go_ret
    exact ⟨by rw [HE]; rfl, grew_trans G0 g8⟩
  have e1 : decide (n < R.length) = true := decide_eq_true a1
  have hn1 : (n : Int) < (R.length : Int) := by omega
  have HE := HCK.out (vrS (R.getD n 0) lf s l (d : Int) h) (by simp [a2, a1])
  obtain ⟨ad, hA, -, -⟩ := HRR.out n (by simpa [u64L] using a1)
  have kR : ∀ y : Gr w1, y.val.cell? (ad.add n) = some (.int .u64 (R.getD n 0 : Nat)) := fun y => by
    obtain ⟨ad', hA', _, hc⟩ := (HRR.out.gr (grew_trans G0 y.ok)) n (by simpa [u64L] using a1)
    rw [hA] at hA'
    injection hA' with hA'
    subst hA'
    rw [hc]
    simp [u64L, List.getD_eq_getElem?_getD, a1]
  subst hA
  have HE2 := Lib.hid HE
  clear HCK a2 HRR HE
  generalize R.getD n 0 = root at *
  refine wp_region_grew (grew_refl w1) (by kernel_rfl) (by kernel_rfl) ?_
  repeat (first
    | (go_big_quiet_want; refine quiet_load_mid 28 (.tmp 6) rfl (w.heap.size + 1) 0 rfl (sgC sw lf s (.slice A l.length c)).toList _ M2.out hug rfl HSL.out ?_; simp only [Act.put, List.setIfInBounds_toArray, List.set_cons_succ, List.set_cons_zero, Array.toArray_toList]; go_big_quiet_on)
    | (go_big_quiet_step (first
      | (go_at_call 138; exact callG (CV.out _ (RL.out _))))))
  refine wpQuiet_nil ?_
  rintro w8 ⟨⟨w8', g8⟩, rfl⟩
  go_wp2_with fail
  go_ret
  exact ⟨by rw [HE2.out]; rfl, grew_trans G0 g8⟩
end Go.Proofs.YtaeopobofmpioaaGreatDoor

namespace Go.Proofs.YtaeopobofmpioaaGreatDoor
set_option linter.unusedSimpArgs false
set_option linter.unusedVariables false
open Go.RowKit
set_option linter.unusedVariables false
set_option linter.unusedSimpArgs false
theorem ckE_07 (R : List Nat) (h : Int) (n d : Nat) (sw lf : Int) (s : Nat → Nat) (l : List Nat) : ckE R h n d sw lf s l = 0 ∨ ckE R h n d sw lf s l = 7 := by
  unfold ckE
  split
  · exact .inr rfl
  · split
    · split
      · exact .inl rfl
      · exact .inr rfl
    · exact .inr rfl
set_option maxRecDepth 100000 in
set_option maxHeartbeats 2000000 in
theorem rstvalid_ok (f : Int) (hf : 1 ≤ f ∧ f ≤ 3) (R : List Nat) (RA : Option Addr) (Rc : Nat) (h : Int) (cm : Nat) (who at_ sw lf : Int) (s : Nat → Nat) (A : Option Addr) (c : Nat) (l : List Nat) (hc : cm < 18446744073709551616) (hw : in64 who) (ha : in64 at_) (hsw : in64 sw) (hlf : in64 lf) (hl : l.length ≤ 1000) (hs : ∀ k, k < 18 → s k < 18446744073709551616) (hb : ∀ x ∈ l, x < 18446744073709551616)
    (hRl : R.length ≤ 1000) (w : World) (hrR : Rd w w.heap.size RA (u64L R)) (hrl : Rd w w.heap.size A (u64L l)) :
    Calls Tryz.prog 27 #[.agg (kyS f RA R.length Rc h), .agg (stC cm who at_ sw lf s (.slice A l.length c))] w fun e w' => e = .returned (.int .i64 (vaE f R h cm who at_ sw lf s l)) ∧ Grew w w' := by
  have huk := Tryz.underlying24
  have hug := Tryz.underlying28
  have HSK : Hid ((Tryz.prog.info? 24).map (·.size) = some (kyS f RA R.length Rc h).toList.length) := Lib.hid rk_info
  have HSG : Hid ((Tryz.prog.info? 28).map (·.size) = some (sgC sw lf s (.slice A l.length c)).toList.length) := Lib.hid rg_info
  have z1 := (Ag.new w 24 (kyS f RA R.length Rc h)).grew (grew_alloc (grew_refl _) (.cells (stC cm who at_ sw lf s (.slice A l.length c)) 30))
  have z2 := Ag.new (w.alloc (.cells (kyS f RA R.length Rc h) 24)) 30 (stC cm who at_ sw lf s (.slice A l.length c))
  rw [alloc_size] at z2
  have G0 := grew_alloc (grew_alloc (grew_refl w) (.cells (kyS f RA R.length Rc h) 24)) (.cells (stC cm who at_ sw lf s (.slice A l.length c)) 30)
  have b1 : ((w.alloc (.cells (kyS f RA R.length Rc h) 24)).alloc (.cells (stC cm who at_ sw lf s (.slice A l.length c)) 30)).cell? ⟨w.heap.size + 1, 1, none⟩ = some (.int .i64 who) := by simpa using z2.cell 1 _ rfl
  have hm := z1.cell
  have CW := Lib.hid (fun W => rwho_ok f hf RA R.length Rc h who W)
  have HRR := Lib.hid hrR
  have HLL := Lib.hid hrl
  clear hrR hrl
  by_cases hA : 0 ≤ who ∧ who < 3 * f + 1
  case neg =>
    have HE : Hid (vaE f R h cm who at_ sw lf s l = 1) := Lib.hid (by
      unfold vaE
      by_cases h0 : who < 0
      · rw [if_pos h0]
      · rw [if_neg h0, if_pos (by omega)])
    rw [show whB f who = false from decide_eq_false hA] at CW
    clear hs hb hA
    go_enter Tryz.func27, Tryz.ntmps27
    go_wp2_with (first
      | (with_reducible refine wpList_load_mid rfl 24 (.tmp 2) rfl w.heap.size 0 rfl (kyS f RA R.length Rc h).toList _ hm huk rfl HSK.out ?_; simp only [Array.toArray_toList]))
    refine (CW.out _).mono ?_
    rintro e w2 ⟨rfl, gg⟩
    have G2 := grew_trans G0 gg
    have y1 := z1.grew gg
    have y2 := z2.grew gg
    have c2 : w2.cell? ⟨w.heap.size + 1, 2, none⟩ = some (.int .i64 at_) := by simpa using y2.cell 2 _ rfl
    clear hm z1 z2 gg CW G0
    go_wp2_with fail
    go_ret
    exact ⟨by rw [HE.out]; rfl, G2⟩
  rw [show whB f who = true from decide_eq_true hA] at CW
  have HV : Hid (vaE f R h cm who at_ sw lf s l = if tmB at_ = true then ckE R h who.toNat (stD cm who at_) sw lf s l else 1) := Lib.hid (by unfold vaE; rw [if_neg (by omega), if_neg (by omega)])
  by_cases hT : 1 ≤ at_ ∧ at_ ≤ 1099511627776
  case neg =>
    have HE : Hid (vaE f R h cm who at_ sw lf s l = 1) := Lib.hid (by rw [HV.out, show tmB at_ = false from decide_eq_false hT]; rfl)
    clear HV hs hb hA
    rcases (show at_ < 1 ∨ (¬ at_ < 1 ∧ 1099511627776 < at_) by omega) with t | ⟨t, t'⟩
    · have t0 : decide (at_ < 1) = true := decide_eq_true t
      clear hT t
      go_enter Tryz.func27, Tryz.ntmps27
      go_wp2_with (first
        | (with_reducible refine wpList_load_mid rfl 24 (.tmp 2) rfl w.heap.size 0 rfl (kyS f RA R.length Rc h).toList _ hm huk rfl HSK.out ?_; simp only [Array.toArray_toList]))
      refine (CW.out _).mono ?_
      rintro e w2 ⟨rfl, gg⟩
      have G2 := grew_trans G0 gg
      have y1 := z1.grew gg
      have y2 := z2.grew gg
      have c2 : w2.cell? ⟨w.heap.size + 1, 2, none⟩ = some (.int .i64 at_) := by simpa using y2.cell 2 _ rfl
      clear hm z1 z2 gg CW G0
      go_wp2_with fail
      go_ret
      exact ⟨by rw [HE.out]; rfl, G2⟩
    · have t0 : decide (at_ < 1) = false := decide_eq_false t
      have t1 : decide (1099511627776 < at_) = true := decide_eq_true t'
      clear hT t t'
      go_enter Tryz.func27, Tryz.ntmps27
      go_wp2_with (first
        | (with_reducible refine wpList_load_mid rfl 24 (.tmp 2) rfl w.heap.size 0 rfl (kyS f RA R.length Rc h).toList _ hm huk rfl HSK.out ?_; simp only [Array.toArray_toList]))
      refine (CW.out _).mono ?_
      rintro e w2 ⟨rfl, gg⟩
      have G2 := grew_trans G0 gg
      have y1 := z1.grew gg
      have y2 := z2.grew gg
      have c2 : w2.cell? ⟨w.heap.size + 1, 2, none⟩ = some (.int .i64 at_) := by simpa using y2.cell 2 _ rfl
      clear hm z1 z2 gg CW G0
      go_wp2_with fail
      go_ret
      exact ⟨by rw [HE.out]; rfl, G2⟩
  obtain ⟨n, rfl⟩ := Int.eq_ofNat_of_zero_le hA.1
  have HE : Hid (vaE f R h cm (n : Int) at_ sw lf s l = ckE R h n (stD cm (n : Int) at_) sw lf s l) := Lib.hid (by rw [HV.out, show tmB at_ = true from decide_eq_true hT]; simp)
  have CS := Lib.hid (fun W h1 h2 => rsigned_ok f R RA Rc h n (stD cm (n : Int) at_) sw lf s A c l (by omega) hlf hl hs hb (stD_lt _ _ _) hRl W h1 h2)
  have CD := Lib.hid (fun W => rstdigest_ok cm (n : Int) at_ hc hw ha W)
  have t0 : decide (at_ < 1) = false := decide_eq_false (by omega)
  have t1 : decide (1099511627776 < at_) = false := decide_eq_false (by omega)
  have H07 := Lib.hid (ckE_07 R h n (stD cm (n : Int) at_) sw lf s l)
  clear HV hs hb hA hT
  generalize stD cm (n : Int) at_ = d at *
  generalize ckE R h n d sw lf s l = ck at *
  obtain ⟨bk, hbk⟩ : ∃ b, decide (ck = 0) = b := ⟨_, rfl⟩
  rw [hbk] at CS
  have HBK := Lib.hid hbk
  clear hbk
  go_enter Tryz.func27, Tryz.ntmps27
  go_wp2_with (first
    | (with_reducible refine wpList_load_mid rfl 24 (.tmp 2) rfl w.heap.size 0 rfl (kyS f RA R.length Rc h).toList _ hm huk rfl HSK.out ?_; simp only [Array.toArray_toList]))
  refine (CW.out _).mono ?_
  rintro e w2 ⟨rfl, gg⟩
  have G2 := grew_trans G0 gg
  have y1 := z1.grew gg
  have y2 := z2.grew gg
  have c2 : w2.cell? ⟨w.heap.size + 1, 2, none⟩ = some (.int .i64 at_) := by simpa using y2.cell 2 _ rfl
  clear hm z1 z2 gg CW G0
  have M1 : Hid (∀ y : Gr w2, y.val.rangeAt w.heap.size 0 (kyS f RA R.length Rc h).toList) := Lib.hid (fun y => (y1.gr y).cell)
  have M2 : Hid (∀ y : Gr w2, y.val.rangeAt (w.heap.size + 1) 3 (sgC sw lf s (.slice A l.length c)).toList) := Lib.hid (fun y => st_sig (y2.gr y).cell)
  have RR : Hid (∀ y : Gr w2, Rd y.val y.val.heap.size RA (u64L R)) := Lib.hid (fun y => (HRR.out.gr G2).gr y.ok)
  have RL : Hid (∀ y : Gr w2, Rd y.val y.val.heap.size A (u64L l)) := Lib.hid (fun y => (HLL.out.gr G2).gr y.ok)
  have q0 : ∀ y : Gr w2, y.val.cell? ⟨w.heap.size + 1, 0, none⟩ = some (.int .u64 (cm : Nat)) := fun y => by simpa using (y2.gr y).cell 0 _ rfl
  have q1 : ∀ y : Gr w2, y.val.cell? ⟨w.heap.size + 1, 1, none⟩ = some (.int .i64 (n : Int)) := fun y => by simpa using (y2.gr y).cell 1 _ rfl
  have q2 : ∀ y : Gr w2, y.val.cell? ⟨w.heap.size + 1, 2, none⟩ = some (.int .i64 at_) := fun y => by simpa using (y2.gr y).cell 2 _ rfl
  clear y1 y2 HRR HLL
  go_wp2_with fail
  clear c2
  refine wp_region_grew (grew_refl w2) (by kernel_rfl) (by kernel_rfl) ?_
  repeat (first
    | (go_big_quiet_want; refine quiet_load_mid 24 (.tmp 2) rfl w.heap.size 0 rfl (kyS f RA R.length Rc h).toList _ M1.out huk rfl HSK.out ?_; simp only [Act.put, List.setIfInBounds_toArray, List.set_cons_succ, List.set_cons_zero, Array.toArray_toList]; go_big_quiet_on)
    | (go_big_quiet_want; refine quiet_load_mid 28 (.tmp 23) rfl (w.heap.size + 1) 3 rfl (sgC sw lf s (.slice A l.length c)).toList _ M2.out hug rfl HSG.out ?_; simp only [Act.put, List.setIfInBounds_toArray, List.set_cons_succ, List.set_cons_zero, Array.toArray_toList]; go_big_quiet_on)
    | (go_big_quiet_step (first
      | (go_at_call 21; exact callG (CD.out _))
      | (go_at_call 84; exact callG (CS.out _ (RR.out _) (RL.out _))))))
  refine wpQuiet_nil ?_
  rintro w8 ⟨⟨w8', g8⟩, rfl⟩
  cases bk
  · have HK : Hid (ck = 7) := Lib.hid (by
      rcases H07.out with hk | hk
      · have := HBK.out; simp [hk] at this
      · exact hk)
    clear HBK
    go_wp2_with fail
    go_ret
    exact ⟨by rw [HE.out, HK.out]; rfl, grew_trans G2 g8⟩
  · have HK : Hid (ck = 0) := Lib.hid (of_decide_eq_true HBK.out)
    clear HBK
    go_wp2_with fail
    go_ret
    exact ⟨by rw [HE.out, HK.out]; rfl, grew_trans G2 g8⟩
end Go.Proofs.YtaeopobofmpioaaGreatDoor
