/- folkmootlaw11.To: a stamp as the program's. -/
import Derived.Test.YtaeopobofmpioaaGreatDoorZbl
import Derived.Test.YtaeopobofmpioaaGreatDoorZat
import Derived.Test.YtaeopobofmpioaaGreatDoorZbh
import Derived.Test.YtaeopobofmpioaaGreatDoorZae
namespace Go.Proofs.YtaeopobofmpioaaGreatDoor
set_option linter.unusedSimpArgs false
set_option linter.unusedVariables false
open Go.RowKit
set_option linter.unusedVariables false
set_option linter.unusedSimpArgs false
set_option maxRecDepth 100000 in
set_option maxHeartbeats 2000000 in
theorem kto_fr (who leaf : Int) (s : Nat → Nat) (A : Option Addr) (c : Nat) (l : List Nat) (hl : l.length ≤ 1048576) (w : World) (hr : Rd w w.heap.size A (u64L l)) :
    Calls Tryz.prog 68 #[.agg (sgC who leaf s (.slice A l.length c))] w fun e w' => ∃ A' c', e = .returned (.agg (sgC who leaf s (.slice A' l.length c'))) ∧ Rd w' w'.heap.size A' (u64L l) ∧ Grew w w' ∧ (∀ ad, A' = some ad → w.heap.size ≤ ad.block) := by
  have z0 := Ag.new w 28 (sgC who leaf s (.slice A l.length c))
  have G0 := grew_alloc (grew_refl w) (.cells (sgC who leaf s (.slice A l.length c)) 28)
  have hwz : w.heap.size < (w.alloc (.cells (sgC who leaf s (.slice A l.length c)) 28)).heap.size := z0.lt
  have HIA : Hid ((Tryz.prog.info? 26).map (·.size) = some (arrU s).toList.length) := Lib.hid (by rw [show (arrU s).toList.length = 18 by simp [arrU]]; kernel_rfl)
  have hua := Tryz.underlying26
  have hur := Tryz.underlying42
  go_enter Tryz.func68, Tryz.ntmps68
  go_wp2_with fail
  have z2 : Ag ((w.alloc (.cells (sgC who leaf s (.slice A l.length c)) 28)).alloc (.cells (#[.int .i64 0, .int .i64 0, .int .u64 0, .int .u64 0, .int .u64 0, .int .u64 0, .int .u64 0, .int .u64 0, .int .u64 0, .int .u64 0, .int .u64 0, .int .u64 0, .int .u64 0, .int .u64 0, .int .u64 0, .int .u64 0, .int .u64 0, .int .u64 0, .int .u64 0, .int .u64 0, .slice none 0 0]) 42)) (w.heap.size + 1) (#[.int .i64 0, .int .i64 0, .int .u64 0, .int .u64 0, .int .u64 0, .int .u64 0, .int .u64 0, .int .u64 0, .int .u64 0, .int .u64 0, .int .u64 0, .int .u64 0, .int .u64 0, .int .u64 0, .int .u64 0, .int .u64 0, .int .u64 0, .int .u64 0, .int .u64 0, .int .u64 0, .slice none 0 0] : Array Value).toList := by
    have := Ag.new (w.alloc (.cells (sgC who leaf s (.slice A l.length c)) 28)) 42 (#[.int .i64 0, .int .i64 0, .int .u64 0, .int .u64 0, .int .u64 0, .int .u64 0, .int .u64 0, .int .u64 0, .int .u64 0, .int .u64 0, .int .u64 0, .int .u64 0, .int .u64 0, .int .u64 0, .int .u64 0, .int .u64 0, .int .u64 0, .int .u64 0, .int .u64 0, .int .u64 0, .slice none 0 0])
    simpa using this
  have z1 := z0.grew (grew_alloc (grew_refl _) (.cells (#[.int .i64 0, .int .i64 0, .int .u64 0, .int .u64 0, .int .u64 0, .int .u64 0, .int .u64 0, .int .u64 0, .int .u64 0, .int .u64 0, .int .u64 0, .int .u64 0, .int .u64 0, .int .u64 0, .int .u64 0, .int .u64 0, .int .u64 0, .int .u64 0, .int .u64 0, .int .u64 0, .slice none 0 0]) 42))
  have G2 := grew_alloc G0 (.cells (#[.int .i64 0, .int .i64 0, .int .u64 0, .int .u64 0, .int .u64 0, .int .u64 0, .int .u64 0, .int .u64 0, .int .u64 0, .int .u64 0, .int .u64 0, .int .u64 0, .int .u64 0, .int .u64 0, .int .u64 0, .int .u64 0, .int .u64 0, .int .u64 0, .int .u64 0, .int .u64 0, .slice none 0 0]) 42)
  clear z0 G0 hwz
  generalize (w.alloc (.cells (sgC who leaf s (.slice A l.length c)) 28)).alloc (.cells (#[.int .i64 0, .int .i64 0, .int .u64 0, .int .u64 0, .int .u64 0, .int .u64 0, .int .u64 0, .int .u64 0, .int .u64 0, .int .u64 0, .int .u64 0, .int .u64 0, .int .u64 0, .int .u64 0, .int .u64 0, .int .u64 0, .int .u64 0, .int .u64 0, .int .u64 0, .int .u64 0, .slice none 0 0]) 42) = w2 at *
  have HC0 : Hid (∀ y, Grew w2 y → y.cell? ⟨w.heap.size, 0, none⟩ = some (.int .i64 who)) := Lib.hid (fun y g => by simpa using (z1.grew g).cell 0 _ rfl)
  have HC1 : Hid (∀ y, Grew w2 y → y.cell? ⟨w.heap.size, 1, none⟩ = some (.int .i64 leaf)) := Lib.hid (fun y g => by simpa using (z1.grew g).cell 1 _ rfl)
  have HC20 : Hid (∀ y, Grew w2 y → y.cell? ⟨w.heap.size, 20, none⟩ = some (.slice A l.length c)) := Lib.hid (fun y g => by simpa using (z1.grew g).cell 20 _ rfl)
  have HCM : Hid (∀ y, Grew w2 y → y.rangeAt w.heap.size 2 (arrU s).toList) := Lib.hid (fun y g => sg_mid (z1.grew g))
  have r2 := hr.gr G2
  have HRY := Lib.hid (fun y (g : Grew w2 y) => r2.gr g)
  clear z1 hr r2
  refine wp_region_rel 11 (fun i => match i with
      | 0 => fun v _ => v = .pointer (some ⟨w.heap.size, 0, none⟩)
      | 1 => fun v _ => v = .int .i64 who
      | 2 => fun v _ => v = .pointer (some ⟨w.heap.size, 1, none⟩)
      | 3 => fun v _ => v = .int .i64 leaf
      | 4 => fun v _ => v = .pointer (some ⟨w.heap.size, 2, none⟩)
      | 5 => fun v _ => v = .agg (arrU s)
      | 6 => fun v _ => v = .agg (arrU s)
      | 7 => fun v _ => v = .pointer (some ⟨w.heap.size, 20, none⟩)
      | 8 => fun v _ => v = .slice A l.length c
      | 9 => fun v w => PV w w2.heap.size l v
      | 10 => fun v w => AgS w w2.heap.size who leaf s l v
      | _ => fun _ _ => True) (by kernel_rfl) (by kernel_rfl) ?_ ?_ ?_
  · intro i v x y h hg
    match i, h with
    | 0, h | 1, h | 2, h | 3, h | 4, h | 5, h | 6, h | 7, h | 8, h => exact h
    | 9, h => exact PV.gr h hg
    | 10, h => exact AgS.gr h hg
    | m + 11, _ => trivial
  · refine ⟨?_, ?_, ?_, ?_, ?_, ?_, ?_, ?_, ?_, ?_, ?_, trivial⟩
    · intro vs y hg hd
      simp only [actOf, List.take_succ_cons, List.take_zero, List.drop_succ_cons, List.drop_zero, Act.put, List.setIfInBounds_toArray, List.set_cons_succ, List.set_cons_zero, Nat.reduceAdd]
      go_wp2_with fail
      exact ⟨rfl, _, rfl, grew_refl _, rfl⟩
    · intro vs y hg hd
      obtain ⟨h0, _⟩ := hd
      replace h0 := h0 rfl
      simp only [actOf, List.take_succ_cons, List.take_zero, List.drop_succ_cons, List.drop_zero, Act.put, List.setIfInBounds_toArray, List.set_cons_succ, List.set_cons_zero, Nat.reduceAdd]
      rw [show vs 0 = _ from h0]
      have hc := HC0.out y hg
      go_wp2_with fail
      exact ⟨rfl, _, rfl, grew_refl _, rfl⟩
    · intro vs y hg hd
      simp only [actOf, List.take_succ_cons, List.take_zero, List.drop_succ_cons, List.drop_zero, Act.put, List.setIfInBounds_toArray, List.set_cons_succ, List.set_cons_zero, Nat.reduceAdd]
      go_wp2_with fail
      exact ⟨rfl, _, rfl, grew_refl _, rfl⟩
    · intro vs y hg hd
      obtain ⟨h2, _⟩ := hd
      replace h2 := h2 rfl
      simp only [actOf, List.take_succ_cons, List.take_zero, List.drop_succ_cons, List.drop_zero, Act.put, List.setIfInBounds_toArray, List.set_cons_succ, List.set_cons_zero, Nat.reduceAdd]
      rw [show vs 2 = _ from h2]
      have hc := HC1.out y hg
      go_wp2_with fail
      exact ⟨rfl, _, rfl, grew_refl _, rfl⟩
    · intro vs y hg hd
      simp only [actOf, List.take_succ_cons, List.take_zero, List.drop_succ_cons, List.drop_zero, Act.put, List.setIfInBounds_toArray, List.set_cons_succ, List.set_cons_zero, Nat.reduceAdd]
      go_wp2_with fail
      exact ⟨rfl, _, rfl, grew_refl _, rfl⟩
    · intro vs y hg hd
      obtain ⟨h4, _⟩ := hd
      replace h4 := h4 rfl
      simp only [actOf, List.take_succ_cons, List.take_zero, List.drop_succ_cons, List.drop_zero, Act.put, List.setIfInBounds_toArray, List.set_cons_succ, List.set_cons_zero, Nat.reduceAdd]
      rw [show vs 4 = _ from h4]
      have hm := HCM.out y hg
      go_wp2_with (with_reducible refine wpList_load_mid rfl 26 (.tmp 7) rfl w.heap.size 2 rfl (arrU s).toList _ hm hua rfl HIA.out ?_)
      exact ⟨rfl, _, rfl, grew_refl _, rfl⟩
    · intro vs y hg hd
      obtain ⟨h5, _⟩ := hd
      replace h5 := h5 rfl
      simp only [actOf, List.take_succ_cons, List.take_zero, List.drop_succ_cons, List.drop_zero, Act.put, List.setIfInBounds_toArray, List.set_cons_succ, List.set_cons_zero, Nat.reduceAdd]
      rw [show vs 5 = _ from h5]
      go_wp2_with (go_at_call 132; refine (to_row s y).mono ?_; rintro e z ⟨rfl, gz⟩)
      exact ⟨rfl, _, rfl, gz, rfl⟩
    · intro vs y hg hd
      simp only [actOf, List.take_succ_cons, List.take_zero, List.drop_succ_cons, List.drop_zero, Act.put, List.setIfInBounds_toArray, List.set_cons_succ, List.set_cons_zero, Nat.reduceAdd]
      go_wp2_with fail
      exact ⟨rfl, _, rfl, grew_refl _, rfl⟩
    · intro vs y hg hd
      obtain ⟨h7, _⟩ := hd
      replace h7 := h7 rfl
      simp only [actOf, List.take_succ_cons, List.take_zero, List.drop_succ_cons, List.drop_zero, Act.put, List.setIfInBounds_toArray, List.set_cons_succ, List.set_cons_zero, Nat.reduceAdd]
      rw [show vs 7 = _ from h7]
      have hc := HC20.out y hg
      go_wp2_with fail
      exact ⟨rfl, _, rfl, grew_refl _, rfl⟩
    · intro vs y hg hd
      obtain ⟨h8, _⟩ := hd
      replace h8 := h8 rfl
      simp only [actOf, List.take_succ_cons, List.take_zero, List.drop_succ_cons, List.drop_zero, Act.put, List.setIfInBounds_toArray, List.set_cons_succ, List.set_cons_zero, Nat.reduceAdd]
      rw [show vs 8 = _ from h8]
      go_wp2_with (go_at_call 67; refine (mkto_any A c y.heap.size l hl y (HRY.out y hg) (Nat.le_refl _)).mono ?_; rintro e z ⟨A2, c2, rfl, hr9, hb9, gz⟩)
      exact ⟨rfl, _, rfl, gz, ⟨A2, c2, rfl, hr9, fun ad h => Nat.le_trans hg.size (hb9 ad h)⟩⟩
    · intro vs y hg hd
      obtain ⟨h1, h3, h6, h9, _⟩ := hd
      replace h1 := h1 rfl
      replace h3 := h3 rfl
      replace h6 := h6 rfl
      replace h9 := h9 rfl
      simp only [actOf, List.take_succ_cons, List.take_zero, List.drop_succ_cons, List.drop_zero, Act.put, List.setIfInBounds_toArray, List.set_cons_succ, List.set_cons_zero, Nat.reduceAdd]
      rw [show vs 1 = _ from h1, show vs 3 = _ from h3, show vs 6 = _ from h6]
      obtain ⟨A2, c2, hv, hr9, hb9⟩ := PV.out h9
      rw [hv]
      have hbu := kg_built who leaf s A2 l.length c2
      generalize arrU s = aa at *
      refine wpList_build_is rfl 42 #[(0, .tmp 4), (1, .tmp 6), (2, .tmp 9), (3, .tmp 12)] rfl _ (by simpa [Act.eval] using hbu) ?_
      go_wp2_with fail
      exact ⟨rfl, _, rfl, grew_refl _, ⟨A2, c2, rfl, hr9, hb9⟩⟩
  · intro vs y hg hJ
    have j0 : vs 0 = .pointer (some ⟨w.heap.size, 0, none⟩) := hJ 0 (by decide)
    have j1 : vs 1 = .int .i64 who := hJ 1 (by decide)
    have j2 : vs 2 = .pointer (some ⟨w.heap.size, 1, none⟩) := hJ 2 (by decide)
    have j3 : vs 3 = .int .i64 leaf := hJ 3 (by decide)
    have j4 : vs 4 = .pointer (some ⟨w.heap.size, 2, none⟩) := hJ 4 (by decide)
    have j5 : vs 5 = .agg (arrU s) := hJ 5 (by decide)
    have j6 : vs 6 = .agg (arrU s) := hJ 6 (by decide)
    have j7 : vs 7 = .pointer (some ⟨w.heap.size, 20, none⟩) := hJ 7 (by decide)
    have j8 : vs 8 = .slice A l.length c := hJ 8 (by decide)
    simp only [actOf, List.take_succ_cons, List.take_zero, List.drop_succ_cons, List.drop_zero, Act.put, List.setIfInBounds_toArray, List.set_cons_succ, List.set_cons_zero, Nat.reduceAdd]
    obtain ⟨A2, c2, j10, r3, hb3⟩ := AgS.out (show AgS y w2.heap.size who leaf s l (vs 10) from hJ 10 (by decide))
    rw [j10]
    clear hJ j0 j1 j2 j3 j4 j5 j6 j7 j8 j10
    have h2 := z2.lt
    have HLO : Hid (∀ ad, A2 = some ad → w.heap.size ≤ ad.block) := Lib.hid (fun ad h => by have := hb3 ad h; have := G2.size; omega)
    have HNE : Hid (∀ ad, A2 = some ad → ad.block ≠ w.heap.size + 1) := Lib.hid (fun ad h => by have := hb3 ad h; omega)
    have z3 := z2.grew hg
    have G3 := grew_trans G2 hg
    clear z2 G2 hg hb3 h2
    have HTH : Hid (y.there (w.heap.size + 1) 0 (sgC who leaf s (.slice A2 l.length c2)).size) := Lib.hid (z3.thereN 21 rfl)
    have HSI : Hid ((Tryz.prog.info? 42).map (·.size) = some (sgC who leaf s (.slice A2 l.length c2)).size) := Lib.hid kg_info
    have HON := Lib.hid (sgC_one who leaf s A2 l.length c2)
    have K3 := setCells_kp (sgC who leaf s (.slice A2 l.length c2)).toList (w.heap.size + 1) 0 y
    have r4 := (r3.kp K3 (Nat.le_refl _) (fun ad h1 h2 h3 => HNE.out ad h1 h3)).more K3.size
    have z4 := Ag.set (vs := (sgC who leaf s (.slice A2 l.length c2)).toList) z3 rfl
    have G4 := setCells_grew (o := 0) (b := w.heap.size + 1) (sgC who leaf s (.slice A2 l.length c2)).toList G3 (by omega)
    go_wp2_with (with_reducible refine wpList_store_mid rfl 42 (.tmp 2) (.tmp 13) rfl (w.heap.size + 1) 0 (sgC who leaf s (.slice A2 l.length c2)) rfl rfl HTH.out HSI.out HON.out ?_)
    exact bodyPost_ret (results_ag1 Tryz.results68 _ _ (w.heap.size + 1) _ _ rfl z4 hur rfl kg_info) rfl ⟨A2, ⟨c2, rfl⟩, r4, G4, HLO.out⟩
set_option maxRecDepth 100000 in
set_option maxHeartbeats 2000000 in
theorem stto_ok (cm : Nat) (who at_ sw lf : Int) (s : Nat → Nat) (A : Option Addr) (c : Nat) (l : List Nat) (hl : l.length ≤ 1048576) (w : World) (hr : Rd w w.heap.size A (u64L l)) :
    Calls Tryz.prog 17 #[.agg (stC cm who at_ sw lf s (.slice A l.length c))] w fun e w' => ∃ A' c', e = .returned (.agg (stC cm who at_ sw lf s (.slice A' l.length c'))) ∧ Rd w' w'.heap.size A' (u64L l) ∧ Grew w w' ∧ (∀ ad, A' = some ad → w.heap.size ≤ ad.block) := by
  have z0 := Ag.new w 30 (stC cm who at_ sw lf s (.slice A l.length c))
  have G0 := grew_alloc (grew_refl w) (.cells (stC cm who at_ sw lf s (.slice A l.length c)) 30)
  have hus := Tryz.underlying28
  have hur := Tryz.underlying44
  have CO := Lib.hid (fun W hR => kto_fr sw lf s A c l hl W hR)
  have HSL : Hid ((Tryz.prog.info? 28).map (·.size) = some (sgC sw lf s (.slice A l.length c)).toList.length) := Lib.hid rg_info
  go_enter Tryz.func17, Tryz.ntmps17
  go_wp2_with fail
  have z2 : Ag ((w.alloc (.cells (stC cm who at_ sw lf s (.slice A l.length c)) 30)).alloc (.cells (#[.int .u64 0, .int .i64 0, .int .i64 0, .int .i64 0, .int .i64 0, .int .u64 0, .int .u64 0, .int .u64 0, .int .u64 0, .int .u64 0, .int .u64 0, .int .u64 0, .int .u64 0, .int .u64 0, .int .u64 0, .int .u64 0, .int .u64 0, .int .u64 0, .int .u64 0, .int .u64 0, .int .u64 0, .int .u64 0, .int .u64 0, .slice none 0 0]) 44)) (w.heap.size + 1) (#[.int .u64 0, .int .i64 0, .int .i64 0, .int .i64 0, .int .i64 0, .int .u64 0, .int .u64 0, .int .u64 0, .int .u64 0, .int .u64 0, .int .u64 0, .int .u64 0, .int .u64 0, .int .u64 0, .int .u64 0, .int .u64 0, .int .u64 0, .int .u64 0, .int .u64 0, .int .u64 0, .int .u64 0, .int .u64 0, .int .u64 0, .slice none 0 0] : Array Value).toList := by
    have := Ag.new (w.alloc (.cells (stC cm who at_ sw lf s (.slice A l.length c)) 30)) 44 (#[.int .u64 0, .int .i64 0, .int .i64 0, .int .i64 0, .int .i64 0, .int .u64 0, .int .u64 0, .int .u64 0, .int .u64 0, .int .u64 0, .int .u64 0, .int .u64 0, .int .u64 0, .int .u64 0, .int .u64 0, .int .u64 0, .int .u64 0, .int .u64 0, .int .u64 0, .int .u64 0, .int .u64 0, .int .u64 0, .int .u64 0, .slice none 0 0])
    simpa using this
  have z1 := z0.grew (grew_alloc (grew_refl _) (.cells (#[.int .u64 0, .int .i64 0, .int .i64 0, .int .i64 0, .int .i64 0, .int .u64 0, .int .u64 0, .int .u64 0, .int .u64 0, .int .u64 0, .int .u64 0, .int .u64 0, .int .u64 0, .int .u64 0, .int .u64 0, .int .u64 0, .int .u64 0, .int .u64 0, .int .u64 0, .int .u64 0, .int .u64 0, .int .u64 0, .int .u64 0, .slice none 0 0]) 44))
  have G2 := grew_alloc G0 (.cells (#[.int .u64 0, .int .i64 0, .int .i64 0, .int .i64 0, .int .i64 0, .int .u64 0, .int .u64 0, .int .u64 0, .int .u64 0, .int .u64 0, .int .u64 0, .int .u64 0, .int .u64 0, .int .u64 0, .int .u64 0, .int .u64 0, .int .u64 0, .int .u64 0, .int .u64 0, .int .u64 0, .int .u64 0, .int .u64 0, .int .u64 0, .slice none 0 0]) 44)
  clear z0 G0
  generalize (w.alloc (.cells (stC cm who at_ sw lf s (.slice A l.length c)) 30)).alloc (.cells (#[.int .u64 0, .int .i64 0, .int .i64 0, .int .i64 0, .int .i64 0, .int .u64 0, .int .u64 0, .int .u64 0, .int .u64 0, .int .u64 0, .int .u64 0, .int .u64 0, .int .u64 0, .int .u64 0, .int .u64 0, .int .u64 0, .int .u64 0, .int .u64 0, .int .u64 0, .int .u64 0, .int .u64 0, .int .u64 0, .int .u64 0, .slice none 0 0]) 44) = w2 at *
  have HC0 : Hid (∀ y, Grew w2 y → y.cell? ⟨w.heap.size, 0, none⟩ = some (.int .u64 (cm : Nat))) := Lib.hid (fun y g => by simpa using (z1.grew g).cell 0 _ rfl)
  have HC1 : Hid (∀ y, Grew w2 y → y.cell? ⟨w.heap.size, 1, none⟩ = some (.int .i64 who)) := Lib.hid (fun y g => by simpa using (z1.grew g).cell 1 _ rfl)
  have HC2 : Hid (∀ y, Grew w2 y → y.cell? ⟨w.heap.size, 2, none⟩ = some (.int .i64 at_)) := Lib.hid (fun y g => by simpa using (z1.grew g).cell 2 _ rfl)
  have HCM : Hid (∀ y, Grew w2 y → y.rangeAt w.heap.size 3 (sgC sw lf s (.slice A l.length c)).toList) := Lib.hid (fun y g => st_sig (z1.grew g).cell)
  have r2 := hr.gr G2
  have HRY := Lib.hid (fun y (g : Grew w2 y) => r2.gr g)
  clear z1 hr r2
  generalize sgC sw lf s (.slice A l.length c) = gs at *
  refine wp_region_rel 10 (fun i => match i with
      | 0 => fun v _ => v = .pointer (some ⟨w.heap.size, 0, none⟩)
      | 1 => fun v _ => v = .int .u64 (cm : Nat)
      | 2 => fun v _ => v = .pointer (some ⟨w.heap.size, 1, none⟩)
      | 3 => fun v _ => v = .int .i64 who
      | 4 => fun v _ => v = .pointer (some ⟨w.heap.size, 2, none⟩)
      | 5 => fun v _ => v = .int .i64 at_
      | 6 => fun v _ => v = .pointer (some ⟨w.heap.size, 3, none⟩)
      | 7 => fun v _ => v = .agg gs
      | 8 => fun v w => AgS w w2.heap.size sw lf s l v
      | 9 => fun v w => AgT w w2.heap.size cm who at_ sw lf s l v
      | _ => fun _ _ => True) (by kernel_rfl) (by kernel_rfl) ?_ ?_ ?_
  · intro i v x y h hg
    match i, h with
    | 0, h | 1, h | 2, h | 3, h | 4, h | 5, h | 6, h | 7, h => exact h
    | 8, h => exact AgS.gr h hg
    | 9, h => exact AgT.gr h hg
    | m + 10, _ => trivial
  · refine ⟨?_, ?_, ?_, ?_, ?_, ?_, ?_, ?_, ?_, ?_, trivial⟩
    · intro vs y hg hd
      simp only [actOf, List.take_succ_cons, List.take_zero, List.drop_succ_cons, List.drop_zero, Act.put, List.setIfInBounds_toArray, List.set_cons_succ, List.set_cons_zero, Nat.reduceAdd]
      go_wp2_with fail
      exact ⟨rfl, _, rfl, grew_refl _, rfl⟩
    · intro vs y hg hd
      obtain ⟨h0, _⟩ := hd
      replace h0 := h0 rfl
      simp only [actOf, List.take_succ_cons, List.take_zero, List.drop_succ_cons, List.drop_zero, Act.put, List.setIfInBounds_toArray, List.set_cons_succ, List.set_cons_zero, Nat.reduceAdd]
      rw [show vs 0 = _ from h0]
      have hc := HC0.out y hg
      go_wp2_with fail
      exact ⟨rfl, _, rfl, grew_refl _, rfl⟩
    · intro vs y hg hd
      simp only [actOf, List.take_succ_cons, List.take_zero, List.drop_succ_cons, List.drop_zero, Act.put, List.setIfInBounds_toArray, List.set_cons_succ, List.set_cons_zero, Nat.reduceAdd]
      go_wp2_with fail
      exact ⟨rfl, _, rfl, grew_refl _, rfl⟩
    · intro vs y hg hd
      obtain ⟨h2, _⟩ := hd
      replace h2 := h2 rfl
      simp only [actOf, List.take_succ_cons, List.take_zero, List.drop_succ_cons, List.drop_zero, Act.put, List.setIfInBounds_toArray, List.set_cons_succ, List.set_cons_zero, Nat.reduceAdd]
      rw [show vs 2 = _ from h2]
      have hc := HC1.out y hg
      go_wp2_with fail
      exact ⟨rfl, _, rfl, grew_refl _, rfl⟩
    · intro vs y hg hd
      simp only [actOf, List.take_succ_cons, List.take_zero, List.drop_succ_cons, List.drop_zero, Act.put, List.setIfInBounds_toArray, List.set_cons_succ, List.set_cons_zero, Nat.reduceAdd]
      go_wp2_with fail
      exact ⟨rfl, _, rfl, grew_refl _, rfl⟩
    · intro vs y hg hd
      obtain ⟨h4, _⟩ := hd
      replace h4 := h4 rfl
      simp only [actOf, List.take_succ_cons, List.take_zero, List.drop_succ_cons, List.drop_zero, Act.put, List.setIfInBounds_toArray, List.set_cons_succ, List.set_cons_zero, Nat.reduceAdd]
      rw [show vs 4 = _ from h4]
      have hc := HC2.out y hg
      go_wp2_with fail
      exact ⟨rfl, _, rfl, grew_refl _, rfl⟩
    · intro vs y hg hd
      simp only [actOf, List.take_succ_cons, List.take_zero, List.drop_succ_cons, List.drop_zero, Act.put, List.setIfInBounds_toArray, List.set_cons_succ, List.set_cons_zero, Nat.reduceAdd]
      go_wp2_with fail
      exact ⟨rfl, _, rfl, grew_refl _, rfl⟩
    · intro vs y hg hd
      obtain ⟨h6, _⟩ := hd
      replace h6 := h6 rfl
      simp only [actOf, List.take_succ_cons, List.take_zero, List.drop_succ_cons, List.drop_zero, Act.put, List.setIfInBounds_toArray, List.set_cons_succ, List.set_cons_zero, Nat.reduceAdd]
      rw [show vs 6 = _ from h6]
      have hm := HCM.out y hg
      go_wp2_with (with_reducible refine wpList_load_mid rfl 28 (.tmp 9) rfl w.heap.size 3 rfl gs.toList _ hm hus rfl HSL.out ?_; simp only [Array.toArray_toList])
      exact ⟨rfl, _, rfl, grew_refl _, rfl⟩
    · intro vs y hg hd
      obtain ⟨h7, _⟩ := hd
      replace h7 := h7 rfl
      simp only [actOf, List.take_succ_cons, List.take_zero, List.drop_succ_cons, List.drop_zero, Act.put, List.setIfInBounds_toArray, List.set_cons_succ, List.set_cons_zero, Nat.reduceAdd]
      rw [show vs 7 = _ from h7]
      go_wp2_with (go_at_call 68; refine (CO.out y (HRY.out y hg)).mono ?_; rintro e z ⟨A2, c2, rfl, hr2, gz, hb2⟩)
      exact ⟨rfl, _, rfl, gz, ⟨A2, c2, rfl, hr2, fun ad h => by have := hb2 ad h; have := hg.size; omega⟩⟩
    · intro vs y hg hd
      obtain ⟨h1, h3, h5, h8, _⟩ := hd
      replace h1 := h1 rfl
      replace h3 := h3 rfl
      replace h5 := h5 rfl
      replace h8 := h8 rfl
      simp only [actOf, List.take_succ_cons, List.take_zero, List.drop_succ_cons, List.drop_zero, Act.put, List.setIfInBounds_toArray, List.set_cons_succ, List.set_cons_zero, Nat.reduceAdd]
      rw [show vs 1 = _ from h1, show vs 3 = _ from h3, show vs 5 = _ from h5]
      obtain ⟨A2, c2, hv, hr2, hb2⟩ := AgS.out h8
      rw [hv]
      have HBU := Lib.hid (st_built cm who at_ sw lf s A2 l.length c2)
      go_wp2_with (with_reducible refine wpList_build_is rfl 44 #[(0, .tmp 4), (1, .tmp 6), (2, .tmp 8), (3, .tmp 11)] rfl (stC cm who at_ sw lf s (.slice A2 l.length c2)) ?_ ?_; · simpa [Act.eval, Act.put] using HBU.out)
      exact ⟨rfl, _, rfl, grew_refl _, ⟨A2, c2, rfl, hr2, hb2⟩⟩
  · intro vs y hg hJ
    have j0 : vs 0 = .pointer (some ⟨w.heap.size, 0, none⟩) := hJ 0 (by decide)
    have j1 : vs 1 = .int .u64 (cm : Nat) := hJ 1 (by decide)
    have j2 : vs 2 = .pointer (some ⟨w.heap.size, 1, none⟩) := hJ 2 (by decide)
    have j3 : vs 3 = .int .i64 who := hJ 3 (by decide)
    have j4 : vs 4 = .pointer (some ⟨w.heap.size, 2, none⟩) := hJ 4 (by decide)
    have j5 : vs 5 = .int .i64 at_ := hJ 5 (by decide)
    have j6 : vs 6 = .pointer (some ⟨w.heap.size, 3, none⟩) := hJ 6 (by decide)
    have j7 : vs 7 = .agg gs := hJ 7 (by decide)
    have s11 := hJ 8 (by decide)
    have s12 := hJ 9 (by decide)
    clear hJ
    simp only [actOf, List.take_succ_cons, List.take_zero, List.drop_succ_cons, List.drop_zero, Act.put, List.setIfInBounds_toArray, List.set_cons_succ, List.set_cons_zero, Nat.reduceAdd]
    obtain ⟨A2, c2, j9, r3, hb3⟩ := AgT.out s12
    rw [j9]
    clear s11 s12 j9
    have hz1 := z2.lt
    have hz2 := G2.size
    have HNE : Hid (∀ ad, A2 = some ad → ad.block ≠ w.heap.size + 1) := Lib.hid (fun ad h => by have := hb3 ad h; omega)
    have HLO : Hid (∀ ad, A2 = some ad → w.heap.size ≤ ad.block) := Lib.hid (fun ad h => by have := hb3 ad h; omega)
    have z3 := z2.grew hg
    have G3 := grew_trans G2 hg
    clear z2 G2 hg hb3 hz1 hz2
    have HTH : Hid (y.there (w.heap.size + 1) 0 (stC cm who at_ sw lf s (.slice A2 l.length c2)).size) := Lib.hid (z3.thereN 24 rfl)
    have HSI : Hid ((Tryz.prog.info? 44).map (·.size) = some (stC cm who at_ sw lf s (.slice A2 l.length c2)).size) := Lib.hid st_info
    have HON := Lib.hid (stC_one cm who at_ sw lf s A2 l.length c2)
    have K3 := setCells_kp (stC cm who at_ sw lf s (.slice A2 l.length c2)).toList (w.heap.size + 1) 0 y
    have r4 := (r3.kp K3 (Nat.le_refl _) (fun ad h1 h2 h3 => HNE.out ad h1 h3)).more K3.size
    have z4 := Ag.set (vs := (stC cm who at_ sw lf s (.slice A2 l.length c2)).toList) z3 rfl
    have G4 := setCells_grew (o := 0) (b := w.heap.size + 1) (stC cm who at_ sw lf s (.slice A2 l.length c2)).toList G3 (by omega)
    go_wp2_with (with_reducible refine wpList_store_mid rfl 44 (.tmp 2) (.tmp 12) rfl (w.heap.size + 1) 0 (stC cm who at_ sw lf s (.slice A2 l.length c2)) rfl rfl HTH.out HSI.out HON.out ?_)
    exact bodyPost_ret (results_ag1 Tryz.results17 _ _ (w.heap.size + 1) _ _ rfl z4 hur rfl st_info) rfl ⟨A2, ⟨c2, rfl⟩, r4, G4, HLO.out⟩
end Go.Proofs.YtaeopobofmpioaaGreatDoor

namespace Go.Proofs.YtaeopobofmpioaaGreatDoor
set_option linter.unusedSimpArgs false
set_option linter.unusedVariables false
open Go.RowKit
set_option linter.unusedVariables false
set_option linter.unusedSimpArgs false
theorem cf_built (f : Int) : Tryz.prog.built 33 [(0, .int .i64 f)] = some #[.int .i64 f] := by kernel_rfl
theorem ky_built (f h : Int) (A : Option Addr) (n c : Nat) : Tryz.prog.built 36 [(0, .agg #[.int .i64 f]), (1, .slice A n c), (2, .int .i64 h)] = some (kyS f A n c h) := by kernel_rfl
theorem ky_info : (Tryz.prog.info? 36).map (·.size) = some 3 := by kernel_rfl
set_option maxRecDepth 100000 in
set_option maxHeartbeats 1000000 in
theorem tokeys_ok (f : Int) (R : List Nat) (RA : Option Addr) (Rc : Nat) (h : Int) (hl : R.length ≤ 1048576) (w : World) (hr : Rd w w.heap.size RA (u64L R)) :
    Calls Tryz.prog 16 #[.agg (kyS f RA R.length Rc h)] w fun e w' => ∃ A' c', e = .returned (.agg (kyS f A' R.length c' h)) ∧ Rd w' w'.heap.size A' (u64L R) ∧ Grew w w' ∧ (∀ ad, A' = some ad → w.heap.size ≤ ad.block) := by
  have z0 := Ag.new w 24 (kyS f RA R.length Rc h)
  have G0 := grew_alloc (grew_refl w) (.cells (kyS f RA R.length Rc h) 24)
  have hur := Tryz.underlying36
  have CO := Lib.hid (fun W hR => mkto_any RA Rc _ R hl W hR (Nat.le_refl _))
  go_enter Tryz.func16, Tryz.ntmps16
  go_wp2_with fail
  have z2 : Ag ((w.alloc (.cells (kyS f RA R.length Rc h) 24)).alloc (.cells (#[.int .i64 0, .slice none 0 0, .int .i64 0]) 36)) (w.heap.size + 1) (#[.int .i64 0, .slice none 0 0, .int .i64 0] : Array Value).toList := by
    have := Ag.new (w.alloc (.cells (kyS f RA R.length Rc h) 24)) 36 (#[.int .i64 0, .slice none 0 0, .int .i64 0])
    simpa using this
  have z1 := z0.grew (grew_alloc (grew_refl _) (.cells (#[.int .i64 0, .slice none 0 0, .int .i64 0]) 36))
  have G2 := grew_alloc G0 (.cells (#[.int .i64 0, .slice none 0 0, .int .i64 0]) 36)
  clear z0 G0
  generalize (w.alloc (.cells (kyS f RA R.length Rc h) 24)).alloc (.cells (#[.int .i64 0, .slice none 0 0, .int .i64 0]) 36) = w2 at *
  have HC0 : Hid (∀ y, Grew w2 y → y.cell? ⟨w.heap.size, 0, none⟩ = some (.int .i64 f)) := Lib.hid (fun y g => by simpa using (z1.grew g).cell 0 _ rfl)
  have HC1 : Hid (∀ y, Grew w2 y → y.cell? ⟨w.heap.size, 1, none⟩ = some (.slice RA R.length Rc)) := Lib.hid (fun y g => by simpa using (z1.grew g).cell 1 _ rfl)
  have HC2 : Hid (∀ y, Grew w2 y → y.cell? ⟨w.heap.size, 2, none⟩ = some (.int .i64 h)) := Lib.hid (fun y g => by simpa using (z1.grew g).cell 2 _ rfl)
  have r2 := hr.gr G2
  have HRY := Lib.hid (fun y (g : Grew w2 y) => r2.gr g)
  clear z1 hr r2
  refine wp_region_rel 9 (fun i => match i with
      | 0 => fun v _ => v = .pointer (some ⟨w.heap.size, 0, none⟩)
      | 1 => fun v _ => v = .int .i64 f
      | 2 => fun v _ => v = .agg #[.int .i64 f]
      | 3 => fun v _ => v = .pointer (some ⟨w.heap.size, 1, none⟩)
      | 4 => fun v _ => v = .slice RA R.length Rc
      | 5 => fun v w => PV w w2.heap.size R v
      | 6 => fun v _ => v = .pointer (some ⟨w.heap.size, 2, none⟩)
      | 7 => fun v _ => v = .int .i64 h
      | 8 => fun v w => KV w w2.heap.size f R h v
      | _ => fun _ _ => True) (by kernel_rfl) (by kernel_rfl) ?_ ?_ ?_
  · intro i v x y h hg
    match i, h with
    | 0, h | 1, h | 2, h | 3, h | 4, h | 6, h | 7, h => exact h
    | 5, h => exact PV.gr h hg
    | 8, h => exact KV.gr h hg
    | m + 9, _ => trivial
  · refine ⟨?_, ?_, ?_, ?_, ?_, ?_, ?_, ?_, ?_, trivial⟩
    · intro vs y hg hd
      simp only [actOf, List.take_succ_cons, List.take_zero, List.drop_succ_cons, List.drop_zero, Act.put, List.setIfInBounds_toArray, List.set_cons_succ, List.set_cons_zero, Nat.reduceAdd]
      go_wp2_with fail
      exact ⟨rfl, _, rfl, grew_refl _, rfl⟩
    · intro vs y hg hd
      obtain ⟨h0, _⟩ := hd
      replace h0 := h0 rfl
      simp only [actOf, List.take_succ_cons, List.take_zero, List.drop_succ_cons, List.drop_zero, Act.put, List.setIfInBounds_toArray, List.set_cons_succ, List.set_cons_zero, Nat.reduceAdd]
      rw [show vs 0 = _ from h0]
      have hc := HC0.out y hg
      go_wp2_with fail
      exact ⟨rfl, _, rfl, grew_refl _, rfl⟩
    · intro vs y hg hd
      obtain ⟨h1, _⟩ := hd
      replace h1 := h1 rfl
      simp only [actOf, List.take_succ_cons, List.take_zero, List.drop_succ_cons, List.drop_zero, Act.put, List.setIfInBounds_toArray, List.set_cons_succ, List.set_cons_zero, Nat.reduceAdd]
      rw [show vs 1 = _ from h1]
      have HBF := Lib.hid (cf_built f)
      go_wp2_with (with_reducible refine wpList_build_is rfl 33 #[(0, .tmp 4)] rfl #[.int .i64 f] ?_ ?_; · simpa [Act.eval, Act.put] using HBF.out)
      exact ⟨rfl, _, rfl, grew_refl _, rfl⟩
    · intro vs y hg hd
      simp only [actOf, List.take_succ_cons, List.take_zero, List.drop_succ_cons, List.drop_zero, Act.put, List.setIfInBounds_toArray, List.set_cons_succ, List.set_cons_zero, Nat.reduceAdd]
      go_wp2_with fail
      exact ⟨rfl, _, rfl, grew_refl _, rfl⟩
    · intro vs y hg hd
      obtain ⟨h3, _⟩ := hd
      replace h3 := h3 rfl
      simp only [actOf, List.take_succ_cons, List.take_zero, List.drop_succ_cons, List.drop_zero, Act.put, List.setIfInBounds_toArray, List.set_cons_succ, List.set_cons_zero, Nat.reduceAdd]
      rw [show vs 3 = _ from h3]
      have hc := HC1.out y hg
      go_wp2_with fail
      exact ⟨rfl, _, rfl, grew_refl _, rfl⟩
    · intro vs y hg hd
      obtain ⟨h4, _⟩ := hd
      replace h4 := h4 rfl
      simp only [actOf, List.take_succ_cons, List.take_zero, List.drop_succ_cons, List.drop_zero, Act.put, List.setIfInBounds_toArray, List.set_cons_succ, List.set_cons_zero, Nat.reduceAdd]
      rw [show vs 4 = _ from h4]
      go_wp2_with (go_at_call 67; refine (CO.out y (HRY.out y hg)).mono ?_; rintro e z ⟨A2, c2, rfl, hr2, hb2, gz⟩)
      exact ⟨rfl, _, rfl, gz, ⟨A2, c2, rfl, hr2, fun ad h => by have := hb2 ad h; have := hg.size; omega⟩⟩
    · intro vs y hg hd
      simp only [actOf, List.take_succ_cons, List.take_zero, List.drop_succ_cons, List.drop_zero, Act.put, List.setIfInBounds_toArray, List.set_cons_succ, List.set_cons_zero, Nat.reduceAdd]
      go_wp2_with fail
      exact ⟨rfl, _, rfl, grew_refl _, rfl⟩
    · intro vs y hg hd
      obtain ⟨h6, _⟩ := hd
      replace h6 := h6 rfl
      simp only [actOf, List.take_succ_cons, List.take_zero, List.drop_succ_cons, List.drop_zero, Act.put, List.setIfInBounds_toArray, List.set_cons_succ, List.set_cons_zero, Nat.reduceAdd]
      rw [show vs 6 = _ from h6]
      have hc := HC2.out y hg
      go_wp2_with fail
      exact ⟨rfl, _, rfl, grew_refl _, rfl⟩
    · intro vs y hg hd
      obtain ⟨h2, h5, h7, _⟩ := hd
      replace h2 := h2 rfl
      replace h5 := h5 rfl
      replace h7 := h7 rfl
      simp only [actOf, List.take_succ_cons, List.take_zero, List.drop_succ_cons, List.drop_zero, Act.put, List.setIfInBounds_toArray, List.set_cons_succ, List.set_cons_zero, Nat.reduceAdd]
      rw [show vs 2 = _ from h2, show vs 7 = _ from h7]
      obtain ⟨A2, c2, hv, hr2, hb2⟩ := PV.out h5
      rw [hv]
      have HBU := Lib.hid (ky_built f h A2 R.length c2)
      go_wp2_with (with_reducible refine wpList_build_is rfl 36 #[(0, .tmp 5), (1, .tmp 8), (2, .tmp 10)] rfl (kyS f A2 R.length c2 h) ?_ ?_; · simpa [Act.eval, Act.put] using HBU.out)
      exact ⟨rfl, _, rfl, grew_refl _, ⟨A2, c2, rfl, hr2, hb2⟩⟩
  · intro vs y hg hJ
    have j0 : vs 0 = .pointer (some ⟨w.heap.size, 0, none⟩) := hJ 0 (by decide)
    have j1 : vs 1 = .int .i64 f := hJ 1 (by decide)
    have j2 : vs 2 = .agg #[.int .i64 f] := hJ 2 (by decide)
    have j3 : vs 3 = .pointer (some ⟨w.heap.size, 1, none⟩) := hJ 3 (by decide)
    have j4 : vs 4 = .slice RA R.length Rc := hJ 4 (by decide)
    have j6 : vs 6 = .pointer (some ⟨w.heap.size, 2, none⟩) := hJ 6 (by decide)
    have j7 : vs 7 = .int .i64 h := hJ 7 (by decide)
    have s8 := hJ 5 (by decide)
    have s11 := hJ 8 (by decide)
    clear hJ
    simp only [actOf, List.take_succ_cons, List.take_zero, List.drop_succ_cons, List.drop_zero, Act.put, List.setIfInBounds_toArray, List.set_cons_succ, List.set_cons_zero, Nat.reduceAdd]
    obtain ⟨A2, c2, j9, r3, hb3⟩ := KV.out s11
    rw [j9]
    clear s8 s11 j9
    have hz1 := z2.lt
    have hz2 := G2.size
    have HNE : Hid (∀ ad, A2 = some ad → ad.block ≠ w.heap.size + 1) := Lib.hid (fun ad h => by have := hb3 ad h; omega)
    have HLO : Hid (∀ ad, A2 = some ad → w.heap.size ≤ ad.block) := Lib.hid (fun ad h => by have := hb3 ad h; omega)
    have z3 := z2.grew hg
    have G3 := grew_trans G2 hg
    clear z2 G2 hg hb3 hz1 hz2
    have HTH : Hid (y.there (w.heap.size + 1) 0 (kyS f A2 R.length c2 h).size) := Lib.hid (z3.thereN 3 rfl)
    have HSI : Hid ((Tryz.prog.info? 36).map (·.size) = some (kyS f A2 R.length c2 h).size) := Lib.hid ky_info
    have HON := Lib.hid (kyS_one f h A2 R.length c2)
    have K3 := setCells_kp (kyS f A2 R.length c2 h).toList (w.heap.size + 1) 0 y
    have r4 := (r3.kp K3 (Nat.le_refl _) (fun ad h1 h2 h3 => HNE.out ad h1 h3)).more K3.size
    have z4 := Ag.set (vs := (kyS f A2 R.length c2 h).toList) z3 rfl
    have G4 := setCells_grew (o := 0) (b := w.heap.size + 1) (kyS f A2 R.length c2 h).toList G3 (by omega)
    go_wp2_with (with_reducible refine wpList_store_mid rfl 36 (.tmp 2) (.tmp 11) rfl (w.heap.size + 1) 0 (kyS f A2 R.length c2 h) rfl rfl HTH.out HSI.out HON.out ?_)
    exact bodyPost_ret (results_ag1 Tryz.results16 _ _ (w.heap.size + 1) _ _ rfl z4 hur rfl ky_info) rfl ⟨A2, ⟨c2, rfl⟩, r4, G4, HLO.out⟩
set_option maxRecDepth 100000 in
set_option maxHeartbeats 1000000 in
theorem rstkeys_ok (f : Int) (R : List Nat) (RA : Option Addr) (Rc : Nat) (h : Int) (hRl : R.length ≤ 1000) (w : World) :
    Calls Tryz.prog 18 #[.agg (kyS f RA R.length Rc h)] w fun e w' => e = .returned (.int .i64 (cyE f R.length h)) ∧ Grew w w' := by
  have CC := Lib.hid (fun W => rcheck_ok f W)
  have zk := Ag.new w 24 (kyS f RA R.length Rc h)
  have G1 := grew_alloc (grew_refl w) (.cells (kyS f RA R.length Rc h) 24)
  have hm0 : (w.alloc (.cells (kyS f RA R.length Rc h) 24)).cell? ⟨w.heap.size, 0, none⟩ = some (.int .i64 f) := by simpa using zk.cell 0 _ rfl
  by_cases hbad : f < 1 ∨ 3 < f
  · have HE : Hid (cyE f R.length h = 1) := Lib.hid (by unfold cyE; rw [if_pos hbad])
    rw [if_pos hbad] at CC
    clear hbad zk
    go_enter Tryz.func18, Tryz.ntmps18
    go_wp2_with fail
    refine (CC.out _).mono ?_
    rintro e w2 ⟨rfl, rfl⟩
    go_wp2_with fail
    go_ret
    exact ⟨by rw [HE.out]; rfl, G1⟩
  rw [if_neg hbad] at CC
  have CN : Hid (∀ W, Calls Tryz.prog 70 #[.int .i64 f] W fun e w' => e = .returned (.int .i64 (3 * f + 1)) ∧ Grew W w') := Lib.hid (fun W => (rn_ok f (by omega) W).mono (by rintro e z ⟨rfl, rfl⟩; exact ⟨rfl, grew_refl _⟩))
  have hf : 1 ≤ f ∧ f ≤ 3 := by omega
  go_enter Tryz.func18, Tryz.ntmps18
  go_wp2_with fail
  refine (CC.out _).mono ?_
  rintro e w1 ⟨rfl, hw1⟩
  rw [← hw1] at zk G1
  clear hm0 CC hw1
  go_wp2_with fail
  have HD : Hid (cyE f R.length h = if (R.length : Int) = 3 * f + 1 ∧ 0 ≤ h ∧ h ≤ 8 then 0 else 1) := Lib.hid (by unfold cyE; rw [if_neg hbad])
  have m0 : ∀ y : Gr w1, y.val.cell? ⟨w.heap.size, 0, none⟩ = some (.int .i64 f) := fun y => by simpa using (zk.gr y).cell 0 _ rfl
  have m1 : ∀ y : Gr w1, y.val.cell? ⟨w.heap.size, 1, none⟩ = some (.slice RA R.length Rc) := fun y => by simpa using (zk.gr y).cell 1 _ rfl
  have m2 : ∀ y : Gr w1, y.val.cell? ⟨w.heap.size, 2, none⟩ = some (.int .i64 h) := fun y => by simpa using (zk.gr y).cell 2 _ rfl
  obtain ⟨nn, hnn⟩ : ∃ nn, 3 * f + 1 = nn := ⟨_, rfl⟩
  rw [hnn] at CN HD
  clear hnn hbad hf zk
  by_cases hA : (R.length : Int) = nn
  · have e1 : ((R.length : Int) != nn) = false := by simp [hA]
    by_cases hB : h < 0
    · have HE : Hid (cyE f R.length h = 1) := Lib.hid (by rw [HD.out, if_neg (by omega)])
      clear hA HD
      refine wp_region_grew (grew_refl w1) (by kernel_rfl) (by kernel_rfl) ?_
      repeat (go_big_quiet_step (first | (go_at_call 70; exact callG (CN.out _))))
      refine wpQuiet_nil ?_
      rintro w8 ⟨⟨w8', g8⟩, rfl⟩
      have G8 := grew_trans G1 g8
      go_wp2_with fail
      go_ret
      exact ⟨by rw [HE.out]; rfl, G8⟩
    by_cases hC : 8 < h
    · have HE : Hid (cyE f R.length h = 1) := Lib.hid (by rw [HD.out, if_neg (by omega)])
      clear hA HD
      refine wp_region_grew (grew_refl w1) (by kernel_rfl) (by kernel_rfl) ?_
      repeat (go_big_quiet_step (first | (go_at_call 70; exact callG (CN.out _))))
      refine wpQuiet_nil ?_
      rintro w8 ⟨⟨w8', g8⟩, rfl⟩
      have G8 := grew_trans G1 g8
      go_wp2_with fail
      go_ret
      exact ⟨by rw [HE.out]; rfl, G8⟩
    have HE : Hid (cyE f R.length h = 0) := Lib.hid (by rw [HD.out, if_pos ⟨hA, by omega, by omega⟩])
    clear hA HD
    refine wp_region_grew (grew_refl w1) (by kernel_rfl) (by kernel_rfl) ?_
    repeat (go_big_quiet_step (first | (go_at_call 70; exact callG (CN.out _))))
    refine wpQuiet_nil ?_
    rintro w8 ⟨⟨w8', g8⟩, rfl⟩
    have G8 := grew_trans G1 g8
    go_wp2_with fail
    go_ret
    exact ⟨by rw [HE.out]; rfl, G8⟩
  · have e1 : ((R.length : Int) != nn) = true := by simp [hA]
    have HE : Hid (cyE f R.length h = 1) := Lib.hid (by rw [HD.out, if_neg (fun h => hA h.1)])
    clear hA HD
    refine wp_region_grew (grew_refl w1) (by kernel_rfl) (by kernel_rfl) ?_
    repeat (go_big_quiet_step (first | (go_at_call 70; exact callG (CN.out _))))
    refine wpQuiet_nil ?_
    rintro w8 ⟨⟨w8', g8⟩, rfl⟩
    have G8 := grew_trans G1 g8
    go_wp2_with fail
    go_ret
    exact ⟨by rw [HE.out]; rfl, G8⟩
set_option maxRecDepth 100000 in
set_option maxHeartbeats 2000000 in
theorem rsttext_ok (cm : Nat) (who at_ sw lf : Int) (s : Nat → Nat) (A : Option Addr) (c : Nat) (l : List Nat) (hc : cm < 18446744073709551616) (hw : in64 who) (ha : in64 at_) (hsw : in64 sw) (hlf : in64 lf) (hl : l.length ≤ 1000) (hs : ∀ k, k < 18 → s k < 18446744073709551616) (hb : ∀ n ∈ l, n < 18446744073709551616) (w : World) (hr : Rd w w.heap.size A (u64L l)) :
    Calls Tryz.prog 25 #[.agg (stC cm who at_ sw lf s (.slice A l.length c))] w fun e w' => e = .returned (.string ⟨(stT cm who at_ sw lf s l).toArray⟩) ∧ Grew w w' := by
  have z0 := Ag.new w 30 (stC cm who at_ sw lf s (.slice A l.length c))
  have g0 := grew_alloc (grew_refl w) (.cells (stC cm who at_ sw lf s (.slice A l.length c)) 30)
  have hus := Tryz.underlying28
  have HSI : Hid ((Tryz.prog.info? 28).map (·.size) = some (sgC sw lf s (.slice A l.length c)).toList.length) := Lib.hid rg_info
  have hlen := stT_len cm who at_ sw lf s l hw ha hsw hlf hl
  have c0 := fun W => hexr_any (cm : Nat) ⟨by omega, by omega⟩ W
  simp only [Int.toNat_natCast] at c0
  have C0 := Lib.hid c0
  clear c0
  have C1 := Lib.hid (fun W => rnum_ok who hw.1 hw.2 W)
  have C2 := Lib.hid (fun W => rnum_ok at_ ha.1 ha.2 W)
  have C3 := Lib.hid (fun W h1 => rsigtext_ok sw lf s A c l hsw hlf hl hs hb W h1)
  have CJ : Hid (∀ (A4 : Option Addr) (W : World), Rd W W.heap.size A4 (strL [⟨(hexL cm).toArray⟩, ⟨(Lib.itoa who).toArray⟩, ⟨(Lib.itoa at_).toArray⟩, ⟨(sgT sw lf s l).toArray⟩]) → Calls Tryz.prog 75 #[.slice A4 4 4] W fun e w' => e = .returned (.string ⟨(stT cm who at_ sw lf s l).toArray⟩) ∧ Grew W w') := Lib.hid (fun A4 W hR => by
    have := rjoin_ok A4 4 [⟨(hexL cm).toArray⟩, ⟨(Lib.itoa who).toArray⟩, ⟨(Lib.itoa at_).toArray⟩, ⟨(sgT sw lf s l).toArray⟩] (by simp) (by simp only [stT] at hlen; simp [bys] at hlen ⊢; omega) W hR
    simpa [bys, stT] using this)
  have HR := Lib.hid hr
  clear hc hw ha hlen hsw hlf hl hs hb hr
  generalize (⟨(stT cm who at_ sw lf s l).toArray⟩ : ByteArray) = tj at *
  generalize (⟨(hexL cm).toArray⟩ : ByteArray) = t0 at *
  generalize (⟨(Lib.itoa who).toArray⟩ : ByteArray) = t1 at *
  generalize (⟨(Lib.itoa at_).toArray⟩ : ByteArray) = t2 at *
  generalize (⟨(sgT sw lf s l).toArray⟩ : ByteArray) = t3 at *
  go_enter Tryz.func25, Tryz.ntmps25
  go_wp2_with fail
  generalize w.alloc (.cells (stC cm who at_ sw lf s (.slice A l.length c)) 30) = w1 at *
  have z1 := z0
  have G0 := Lib.hid g0
  have HRR := Lib.hid (fun y (g : Grew w1 y) => (HR.out.gr G0.out).gr g)
  have HC0 : Hid (∀ y, Grew w1 y → y.cell? ⟨w.heap.size, 0, none⟩ = some (.int .u64 (cm : Nat))) := Lib.hid (fun y g => by simpa using (z1.grew g).cell 0 _ rfl)
  have HC1 : Hid (∀ y, Grew w1 y → y.cell? ⟨w.heap.size, 1, none⟩ = some (.int .i64 who)) := Lib.hid (fun y g => by simpa using (z1.grew g).cell 1 _ rfl)
  have HC2 : Hid (∀ y, Grew w1 y → y.cell? ⟨w.heap.size, 2, none⟩ = some (.int .i64 at_)) := Lib.hid (fun y g => by simpa using (z1.grew g).cell 2 _ rfl)
  have HCM : Hid (∀ y, Grew w1 y → y.rangeAt w.heap.size 3 (sgC sw lf s (.slice A l.length c)).toList) := Lib.hid (fun y g => st_sig (z1.grew g).cell)
  clear z0 z1 g0
  refine wp_region_rel 14 (fun i => match i with
      | 0 => fun v _ => v = .pointer (some ⟨w.heap.size, 0, none⟩)
      | 1 => fun v _ => v = .int .u64 (cm : Nat)
      | 2 => fun v _ => v = .string t0
      | 3 => fun v _ => v = .pointer (some ⟨w.heap.size, 1, none⟩)
      | 4 => fun v _ => v = .int .i64 who
      | 5 => fun v _ => v = .string t1
      | 6 => fun v _ => v = .pointer (some ⟨w.heap.size, 2, none⟩)
      | 7 => fun v _ => v = .int .i64 at_
      | 8 => fun v _ => v = .string t2
      | 9 => fun v _ => v = .pointer (some ⟨w.heap.size, 3, none⟩)
      | 10 => fun v _ => v = .agg (sgC sw lf s (.slice A l.length c))
      | 11 => fun v _ => v = .string t3
      | 12 => fun v w => FourS w [t0, t1, t2, t3] v
      | 13 => fun v _ => v = .string tj
      | _ => fun _ _ => True) (by kernel_rfl) (by kernel_rfl) ?_ ?_ ?_
  · intro i v x y h hg
    match i, h with
    | 0, h | 1, h | 2, h | 3, h | 4, h | 5, h | 6, h | 7, h | 8, h | 9, h | 10, h | 11, h | 13, h => exact h
    | 12, h => exact FourS.gr h hg
    | m + 14, _ => trivial
  · refine ⟨?_, ?_, ?_, ?_, ?_, ?_, ?_, ?_, ?_, ?_, ?_, ?_, ?_, ?_, trivial⟩
    · intro vs y hg hd
      simp only [actOf, List.take_succ_cons, List.take_zero, List.drop_succ_cons, List.drop_zero, Act.put, List.setIfInBounds_toArray, List.set_cons_succ, List.set_cons_zero, Nat.reduceAdd]
      go_wp2_with fail
      exact ⟨rfl, _, rfl, grew_refl _, rfl⟩
    · intro vs y hg hd
      obtain ⟨h0, _⟩ := hd
      replace h0 := h0 rfl
      simp only [actOf, List.take_succ_cons, List.take_zero, List.drop_succ_cons, List.drop_zero, Act.put, List.setIfInBounds_toArray, List.set_cons_succ, List.set_cons_zero, Nat.reduceAdd]
      rw [show vs 0 = _ from h0]
      have hc := HC0.out y hg
      go_wp2_with fail
      exact ⟨rfl, _, rfl, grew_refl _, rfl⟩
    · intro vs y hg hd
      obtain ⟨h1, _⟩ := hd
      replace h1 := h1 rfl
      simp only [actOf, List.take_succ_cons, List.take_zero, List.drop_succ_cons, List.drop_zero, Act.put, List.setIfInBounds_toArray, List.set_cons_succ, List.set_cons_zero, Nat.reduceAdd]
      rw [show vs 1 = _ from h1]
      go_wp2_with (go_at_call 76; refine (C0.out y).mono ?_; rintro e z ⟨rfl, gz⟩)
      exact ⟨rfl, _, rfl, gz, rfl⟩
    · intro vs y hg hd
      simp only [actOf, List.take_succ_cons, List.take_zero, List.drop_succ_cons, List.drop_zero, Act.put, List.setIfInBounds_toArray, List.set_cons_succ, List.set_cons_zero, Nat.reduceAdd]
      go_wp2_with fail
      exact ⟨rfl, _, rfl, grew_refl _, rfl⟩
    · intro vs y hg hd
      obtain ⟨h3, _⟩ := hd
      replace h3 := h3 rfl
      simp only [actOf, List.take_succ_cons, List.take_zero, List.drop_succ_cons, List.drop_zero, Act.put, List.setIfInBounds_toArray, List.set_cons_succ, List.set_cons_zero, Nat.reduceAdd]
      rw [show vs 3 = _ from h3]
      have hc := HC1.out y hg
      go_wp2_with fail
      exact ⟨rfl, _, rfl, grew_refl _, rfl⟩
    · intro vs y hg hd
      obtain ⟨h4, _⟩ := hd
      replace h4 := h4 rfl
      simp only [actOf, List.take_succ_cons, List.take_zero, List.drop_succ_cons, List.drop_zero, Act.put, List.setIfInBounds_toArray, List.set_cons_succ, List.set_cons_zero, Nat.reduceAdd]
      rw [show vs 4 = _ from h4]
      go_wp2_with (go_at_call 77; refine (C1.out y).mono ?_; rintro e z ⟨rfl, gz⟩)
      exact ⟨rfl, _, rfl, gz, rfl⟩
    · intro vs y hg hd
      simp only [actOf, List.take_succ_cons, List.take_zero, List.drop_succ_cons, List.drop_zero, Act.put, List.setIfInBounds_toArray, List.set_cons_succ, List.set_cons_zero, Nat.reduceAdd]
      go_wp2_with fail
      exact ⟨rfl, _, rfl, grew_refl _, rfl⟩
    · intro vs y hg hd
      obtain ⟨h6, _⟩ := hd
      replace h6 := h6 rfl
      simp only [actOf, List.take_succ_cons, List.take_zero, List.drop_succ_cons, List.drop_zero, Act.put, List.setIfInBounds_toArray, List.set_cons_succ, List.set_cons_zero, Nat.reduceAdd]
      rw [show vs 6 = _ from h6]
      have hc := HC2.out y hg
      go_wp2_with fail
      exact ⟨rfl, _, rfl, grew_refl _, rfl⟩
    · intro vs y hg hd
      obtain ⟨h7, _⟩ := hd
      replace h7 := h7 rfl
      simp only [actOf, List.take_succ_cons, List.take_zero, List.drop_succ_cons, List.drop_zero, Act.put, List.setIfInBounds_toArray, List.set_cons_succ, List.set_cons_zero, Nat.reduceAdd]
      rw [show vs 7 = _ from h7]
      go_wp2_with (go_at_call 77; refine (C2.out y).mono ?_; rintro e z ⟨rfl, gz⟩)
      exact ⟨rfl, _, rfl, gz, rfl⟩
    · intro vs y hg hd
      simp only [actOf, List.take_succ_cons, List.take_zero, List.drop_succ_cons, List.drop_zero, Act.put, List.setIfInBounds_toArray, List.set_cons_succ, List.set_cons_zero, Nat.reduceAdd]
      go_wp2_with fail
      exact ⟨rfl, _, rfl, grew_refl _, rfl⟩
    · intro vs y hg hd
      obtain ⟨h9, _⟩ := hd
      replace h9 := h9 rfl
      simp only [actOf, List.take_succ_cons, List.take_zero, List.drop_succ_cons, List.drop_zero, Act.put, List.setIfInBounds_toArray, List.set_cons_succ, List.set_cons_zero, Nat.reduceAdd]
      rw [show vs 9 = _ from h9]
      have hm := HCM.out y hg
      go_wp2_with (with_reducible refine wpList_load_mid rfl 28 (.tmp 12) rfl w.heap.size 3 rfl (sgC sw lf s (.slice A l.length c)).toList _ hm hus rfl HSI.out ?_)
      exact ⟨rfl, _, rfl, grew_refl _, rfl⟩
    · intro vs y hg hd
      obtain ⟨h10, _⟩ := hd
      replace h10 := h10 rfl
      simp only [actOf, List.take_succ_cons, List.take_zero, List.drop_succ_cons, List.drop_zero, Act.put, List.setIfInBounds_toArray, List.set_cons_succ, List.set_cons_zero, Nat.reduceAdd]
      rw [show vs 10 = _ from h10]
      go_wp2_with (go_at_call 79; refine (C3.out y (HRR.out y hg)).mono ?_; rintro e z ⟨rfl, gz⟩)
      exact ⟨rfl, _, rfl, gz, rfl⟩
    · intro vs y hg hd
      obtain ⟨h2, h5, h8, h11, _⟩ := hd
      replace h2 := h2 rfl
      replace h5 := h5 rfl
      replace h8 := h8 rfl
      replace h11 := h11 rfl
      simp only [actOf, List.take_succ_cons, List.take_zero, List.drop_succ_cons, List.drop_zero, Act.put, List.setIfInBounds_toArray, List.set_cons_succ, List.set_cons_zero, Nat.reduceAdd]
      rw [show vs 2 = _ from h2, show vs 5 = _ from h5, show vs 8 = _ from h8, show vs 11 = _ from h11]
      go_wp2_with fail
      exact ⟨rfl, _, rfl, grew_alloc (grew_refl _) _, ⟨_, rfl, rd_made y _ _⟩⟩
    · intro vs y hg hd
      obtain ⟨h12, _⟩ := hd
      replace h12 := h12 rfl
      simp only [actOf, List.take_succ_cons, List.take_zero, List.drop_succ_cons, List.drop_zero, Act.put, List.setIfInBounds_toArray, List.set_cons_succ, List.set_cons_zero, Nat.reduceAdd]
      obtain ⟨A4, hv, r4⟩ := FourS.out h12
      rw [hv]
      go_wp2_with (go_at_call 75; refine (CJ.out A4 y r4).mono ?_; rintro e z ⟨rfl, gz⟩)
      exact ⟨rfl, _, rfl, gz, rfl⟩
  · intro vs y hg hJ
    have j0 : vs 0 = .pointer (some ⟨w.heap.size, 0, none⟩) := hJ 0 (by decide)
    have j1 : vs 1 = .int .u64 (cm : Nat) := hJ 1 (by decide)
    have j2 : vs 2 = .string t0 := hJ 2 (by decide)
    have j3 : vs 3 = .pointer (some ⟨w.heap.size, 1, none⟩) := hJ 3 (by decide)
    have j4 : vs 4 = .int .i64 who := hJ 4 (by decide)
    have j5 : vs 5 = .string t1 := hJ 5 (by decide)
    have j6 : vs 6 = .pointer (some ⟨w.heap.size, 2, none⟩) := hJ 6 (by decide)
    have j7 : vs 7 = .int .i64 at_ := hJ 7 (by decide)
    have j8 : vs 8 = .string t2 := hJ 8 (by decide)
    have j9 : vs 9 = .pointer (some ⟨w.heap.size, 3, none⟩) := hJ 9 (by decide)
    have j10 : vs 10 = .agg (sgC sw lf s (.slice A l.length c)) := hJ 10 (by decide)
    have j11 : vs 11 = .string t3 := hJ 11 (by decide)
    have j13 : vs 13 = .string tj := hJ 13 (by decide)
    have s15 := hJ 12 (by decide)
    clear hJ
    simp only [actOf, List.take_succ_cons, List.take_zero, List.drop_succ_cons, List.drop_zero, Act.put, List.setIfInBounds_toArray, List.set_cons_succ, List.set_cons_zero, Nat.reduceAdd]
    rw [j13]
    clear j0 j1 j2 j3 j4 j5 j6 j7 j8 j9 j10 j11 s15 j13
    go_wp2_with fail
    go_ret
    exact ⟨rfl, grew_trans G0.out hg⟩
end Go.Proofs.YtaeopobofmpioaaGreatDoor

namespace Go.Proofs.YtaeopobofmpioaaGreatDoor
set_option linter.unusedSimpArgs false
set_option linter.unusedVariables false
open Go.RowKit
set_option linter.unusedVariables false
structure KW (w : World) (lo hi : Nat) (f : Int) (R : List Nat) (h : Int) (v : Value) : Prop where
  out : ∃ A c, v = .agg (kyS f A R.length c h) ∧ Rd w w.heap.size A (u64L R) ∧ (∀ ad, A = some ad → lo ≤ ad.block) ∧ (∀ ad, A = some ad → R = [] ∨ ad.block < hi)
theorem KW.gr {w w' : World} {lo hi : Nat} {f : Int} {R : List Nat} {h : Int} {v : Value} (k : KW w lo hi f R h v) (g : Grew w w') : KW w' lo hi f R h v := by
  obtain ⟨A, c, h1, h2, h3, h4⟩ := k.out
  exact ⟨A, c, h1, h2.gr g, h3, h4⟩
structure SW (w : World) (lo hi : Nat) (cm : Nat) (who at_ sw lf : Int) (s : Nat → Nat) (l : List Nat) (v : Value) : Prop where
  out : ∃ A c, v = .agg (stC cm who at_ sw lf s (.slice A l.length c)) ∧ Rd w w.heap.size A (u64L l) ∧ (∀ ad, A = some ad → lo ≤ ad.block) ∧ (∀ ad, A = some ad → l = [] ∨ ad.block < hi)
theorem SW.gr {w w' : World} {lo hi cm : Nat} {who at_ sw lf : Int} {s : Nat → Nat} {l : List Nat} {v : Value} (k : SW w lo hi cm who at_ sw lf s l v) (g : Grew w w') : SW w' lo hi cm who at_ sw lf s l v := by
  obtain ⟨A, c, h1, h2, h3, h4⟩ := k.out
  exact ⟨A, c, h1, h2.gr g, h3, h4⟩
structure NW (w : World) (lo hi : Nat) (zs : List Value) (v : Value) : Prop where
  out : v = .pointer (some ⟨lo, 0, none⟩) ∧ Ag w lo zs ∧ hi = lo + 1
theorem NW.gr {w w' : World} {lo hi : Nat} {zs : List Value} {v : Value} (k : NW w lo hi zs v) (g : Grew w w') : NW w' lo hi zs v := ⟨k.out.1, k.out.2.1.grew g, k.out.2.2⟩
theorem rd_lt {w : World} {B : Nat} {A : Option Addr} {l : List Nat} (h : Rd w B A (u64L l)) : ∀ ad, A = some ad → l = [] ∨ ad.block < B := fun ad e => by
  cases l with
  | nil => exact .inl rfl
  | cons a r =>
    obtain ⟨ad', e', hb, _⟩ := h 0 (by simp [u64L])
    rw [e] at e'
    cases e'
    exact .inr hb
/-- a slice lies in no block that another operation made -/
theorem rd_apart {w w' : World} {A : Option Addr} {l : List Nat} {S : Nat → Prop} (h : Rd w w.heap.size A (u64L l)) (k : Kp S w w') (hs : ∀ ad, A = some ad → l = [] ∨ ¬ S ad.block) : Rd w' w'.heap.size A (u64L l) := by
  cases l with
  | nil => exact fun i hi => absurd hi (by simp [u64L])
  | cons a r => exact (h.kp k (Nat.le_refl _) (fun ad e _ => by rcases hs ad e with h | h; · cases h
                                                                · exact h)).more k.size
/-- two structs laid into two blocks just made -/
theorem two_put {a w : World} {q1 q2 : Nat} {z1 z2 c1 c2 : List Value} (h1 : Ag w q1 z1) (h2 : Ag w q2 z2) (hne : q1 ≠ q2) (l1 : c1.length = z1.length) (l2 : c2.length = z2.length) (ha : Grew a w) (hq1 : a.heap.size ≤ q1) (hq2 : a.heap.size ≤ q2) :
    ∃ W1 W2, w.setCells q1 0 c1 = W1 ∧ W1.setCells q2 0 c2 = W2 ∧ w.there q1 0 c1.length ∧ W1.there q2 0 c2.length ∧ Ag W2 q1 c1 ∧ Ag W2 q2 c2 ∧ Grew a W2 ∧ Kp (fun j => j = q1 ∨ j = q2) w W2 := by
  have x1 := Ag.set (vs := c1) h1 l1
  have x2 := h2.other (b' := q1) (o := 0) (vs := c1) (Ne.symm hne)
  have y1 := x1.other (b' := q2) (o := 0) (vs := c2) hne
  have y2 := Ag.set (vs := c2) x2 l2
  have g1 := setCells_grew (o := 0) (b := q1) c1 ha hq1
  have g2 := setCells_grew (o := 0) (b := q2) c2 g1 hq2
  exact ⟨_, _, rfl, rfl, h1.thereN _ l1.symm, x2.thereN _ l2.symm, y1, y2, g2, kp_trans (kp_mono (setCells_kp c1 q1 0 w) (fun i hi => .inl hi)) (kp_mono (setCells_kp c2 q2 0 _) (fun i hi => .inr hi))⟩
theorem put_stA (W : World) (cs : Array Value) (h : cs.size = 24) : ∃ W', (W.alloc (.cells (#[.int .u64 0, .int .i64 0, .int .i64 0, .int .i64 0, .int .i64 0, .int .u64 0, .int .u64 0, .int .u64 0, .int .u64 0, .int .u64 0, .int .u64 0, .int .u64 0, .int .u64 0, .int .u64 0, .int .u64 0, .int .u64 0, .int .u64 0, .int .u64 0, .int .u64 0, .int .u64 0, .int .u64 0, .int .u64 0, .int .u64 0, .slice none 0 0]) 44)).setCells W.heap.size 0 cs.toList = W' ∧ (W.alloc (.cells (#[.int .u64 0, .int .i64 0, .int .i64 0, .int .i64 0, .int .i64 0, .int .u64 0, .int .u64 0, .int .u64 0, .int .u64 0, .int .u64 0, .int .u64 0, .int .u64 0, .int .u64 0, .int .u64 0, .int .u64 0, .int .u64 0, .int .u64 0, .int .u64 0, .int .u64 0, .int .u64 0, .int .u64 0, .int .u64 0, .int .u64 0, .slice none 0 0]) 44)).there W.heap.size 0 cs.size ∧ Grew W W' ∧ Ag W' W.heap.size cs.toList :=
  ⟨_, rfl, by rw [h]; exact (Ag.new W 44 (#[.int .u64 0, .int .i64 0, .int .i64 0, .int .i64 0, .int .i64 0, .int .u64 0, .int .u64 0, .int .u64 0, .int .u64 0, .int .u64 0, .int .u64 0, .int .u64 0, .int .u64 0, .int .u64 0, .int .u64 0, .int .u64 0, .int .u64 0, .int .u64 0, .int .u64 0, .int .u64 0, .int .u64 0, .int .u64 0, .int .u64 0, .slice none 0 0])).thereN 24 rfl, setCells_grew (o := 0) (b := W.heap.size) cs.toList (grew_alloc (grew_refl W) _) (Nat.le_refl _), Ag.set (vs := cs.toList) (Ag.new W 44 (#[.int .u64 0, .int .i64 0, .int .i64 0, .int .i64 0, .int .i64 0, .int .u64 0, .int .u64 0, .int .u64 0, .int .u64 0, .int .u64 0, .int .u64 0, .int .u64 0, .int .u64 0, .int .u64 0, .int .u64 0, .int .u64 0, .int .u64 0, .int .u64 0, .int .u64 0, .int .u64 0, .int .u64 0, .int .u64 0, .int .u64 0, .slice none 0 0])) (by simp [h])⟩
theorem put_rstA (W : World) (cs : Array Value) (h : cs.size = 24) : ∃ W', (W.alloc (.cells (#[.int .u64 0, .int .i64 0, .int .i64 0, .int .i64 0, .int .i64 0, .int .u64 0, .int .u64 0, .int .u64 0, .int .u64 0, .int .u64 0, .int .u64 0, .int .u64 0, .int .u64 0, .int .u64 0, .int .u64 0, .int .u64 0, .int .u64 0, .int .u64 0, .int .u64 0, .int .u64 0, .int .u64 0, .int .u64 0, .int .u64 0, .slice none 0 0]) 30)).setCells W.heap.size 0 cs.toList = W' ∧ (W.alloc (.cells (#[.int .u64 0, .int .i64 0, .int .i64 0, .int .i64 0, .int .i64 0, .int .u64 0, .int .u64 0, .int .u64 0, .int .u64 0, .int .u64 0, .int .u64 0, .int .u64 0, .int .u64 0, .int .u64 0, .int .u64 0, .int .u64 0, .int .u64 0, .int .u64 0, .int .u64 0, .int .u64 0, .int .u64 0, .int .u64 0, .int .u64 0, .slice none 0 0]) 30)).there W.heap.size 0 cs.size ∧ Grew W W' ∧ Ag W' W.heap.size cs.toList :=
  ⟨_, rfl, by rw [h]; exact (Ag.new W 30 (#[.int .u64 0, .int .i64 0, .int .i64 0, .int .i64 0, .int .i64 0, .int .u64 0, .int .u64 0, .int .u64 0, .int .u64 0, .int .u64 0, .int .u64 0, .int .u64 0, .int .u64 0, .int .u64 0, .int .u64 0, .int .u64 0, .int .u64 0, .int .u64 0, .int .u64 0, .int .u64 0, .int .u64 0, .int .u64 0, .int .u64 0, .slice none 0 0])).thereN 24 rfl, setCells_grew (o := 0) (b := W.heap.size) cs.toList (grew_alloc (grew_refl W) _) (Nat.le_refl _), Ag.set (vs := cs.toList) (Ag.new W 30 (#[.int .u64 0, .int .i64 0, .int .i64 0, .int .i64 0, .int .i64 0, .int .u64 0, .int .u64 0, .int .u64 0, .int .u64 0, .int .u64 0, .int .u64 0, .int .u64 0, .int .u64 0, .int .u64 0, .int .u64 0, .int .u64 0, .int .u64 0, .int .u64 0, .int .u64 0, .int .u64 0, .int .u64 0, .int .u64 0, .int .u64 0, .slice none 0 0])) (by simp [h])⟩
end Go.Proofs.YtaeopobofmpioaaGreatDoor
