/- Messages without content: cells, copies (mkmgb.py). -/
import Derived.Test.YtfnkcahnkccekaaDoorMgA
import Derived.Test.YtfnkcahnkccekaaDoorProg
namespace Go.Proofs.YtfnkcahnkccekaaDoor
open Go.RowKit
set_option linter.unusedVariables false
set_option linter.unusedSimpArgs false
abbrev sgZ : Array Value := #[.int .i64 0, .int .i64 0, .int .u64 0, .int .u64 0, .int .u64 0, .int .u64 0, .int .u64 0, .int .u64 0, .int .u64 0, .int .u64 0, .int .u64 0, .int .u64 0, .int .u64 0, .int .u64 0, .int .u64 0, .int .u64 0, .int .u64 0, .int .u64 0, .int .u64 0, .int .u64 0, .slice none 0 0]
abbrev stZ : Array Value := #[.int .u64 0, .int .i64 0, .int .i64 0, .int .i64 0, .int .i64 0, .int .u64 0, .int .u64 0, .int .u64 0, .int .u64 0, .int .u64 0, .int .u64 0, .int .u64 0, .int .u64 0, .int .u64 0, .int .u64 0, .int .u64 0, .int .u64 0, .int .u64 0, .int .u64 0, .int .u64 0, .int .u64 0, .int .u64 0, .int .u64 0, .slice none 0 0]
abbrev ctZ (a : Value) : Array Value := #[.int .i64 0, .int .i64 0, .int .i64 0, .int .i64 0, .int .i64 0, a]
abbrev akZ : Array Value := #[.int .u64 0, .int .i64 0, .int .i64 0, .int .i64 0, .int .u64 0, .int .u64 0, .int .u64 0, .int .u64 0, .int .u64 0, .int .u64 0, .int .u64 0, .int .u64 0, .int .u64 0, .int .u64 0, .int .u64 0, .int .u64 0, .int .u64 0, .int .u64 0, .int .u64 0, .int .u64 0, .int .u64 0, .int .u64 0, .slice none 0 0]
abbrev reZ (a : Value) : Array Value := #[.int .i64 0, .int .i64 0, .int .i64 0, a, .int .i64 0, .int .i64 0, .int .u64 0, .int .u64 0, .int .u64 0, .int .u64 0, .int .u64 0, .int .u64 0, .int .u64 0, .int .u64 0, .int .u64 0, .int .u64 0, .int .u64 0, .int .u64 0, .int .u64 0, .int .u64 0, .int .u64 0, .int .u64 0, .int .u64 0, .int .u64 0, .slice none 0 0]
abbrev qcZ (a : Value) : Array Value := #[.int .i64 0, .int .u64 0, a]
abbrev blZ (a b : Value) : Array Value := #[.int .i64 0, .int .u64 0, .int .i64 0, .int .u64 0, a, .int .i64 0, .int .i64 0, b]
abbrev voZ : Array Value := #[.int .i64 0, .int .u64 0, .int .i64 0, .int .i64 0, .int .i64 0, .int .u64 0, .int .u64 0, .int .u64 0, .int .u64 0, .int .u64 0, .int .u64 0, .int .u64 0, .int .u64 0, .int .u64 0, .int .u64 0, .int .u64 0, .int .u64 0, .int .u64 0, .int .u64 0, .int .u64 0, .int .u64 0, .int .u64 0, .int .u64 0, .slice none 0 0]
abbrev nvZ (a : Value) : Array Value := #[.int .i64 0, .int .i64 0, .int .i64 0, .int .u64 0, a, .int .i64 0, .int .i64 0, .int .u64 0, .int .u64 0, .int .u64 0, .int .u64 0, .int .u64 0, .int .u64 0, .int .u64 0, .int .u64 0, .int .u64 0, .int .u64 0, .int .u64 0, .int .u64 0, .int .u64 0, .int .u64 0, .int .u64 0, .int .u64 0, .int .u64 0, .int .u64 0, .slice none 0 0]
theorem mi_sg : (Tryd.prog.info? 32).map (·.size) = some 21 := by kernel_rfl
theorem mi_st : (Tryd.prog.info? 34).map (·.size) = some 24 := by kernel_rfl
theorem mi_ct : (Tryd.prog.info? 37).map (·.size) = some 6 := by kernel_rfl
theorem mi_ak : (Tryd.prog.info? 39).map (·.size) = some 23 := by kernel_rfl
theorem mi_re : (Tryd.prog.info? 42).map (·.size) = some 25 := by kernel_rfl
theorem mi_qc : (Tryd.prog.info? 45).map (·.size) = some 3 := by kernel_rfl
theorem mi_bl : (Tryd.prog.info? 48).map (·.size) = some 8 := by kernel_rfl
theorem mi_vo : (Tryd.prog.info? 50).map (·.size) = some 24 := by kernel_rfl
theorem mi_nv : (Tryd.prog.info? 52).map (·.size) = some 26 := by kernel_rfl
theorem mi_ms : (Tryd.prog.info? 55).map (·.size) = some 147 := by kernel_rfl
theorem ev_grew {a b : World} {v : Value} {P : Prop} (h : P) : P := h
set_option maxRecDepth 100000 in
theorem mgclone (w : World) : Calls Tryd.prog 41 #[.slice none 0 0] w fun e w' => e = .returned (.slice none 0 0) ∧ Grew w w' := by
  have he := fun W => Lib.run_eql_slice_nil (P := Tryd.prog) W 30 27 none 0 0 0 0 Tryd.underlying30
  simp only [Option.isNone_none] at he
  go_enter Tryd.func41, Tryd.ntmps41
  go_wp2_with fail
  go_ret
  exact ⟨rfl, Below.refl _ _⟩
set_option maxRecDepth 100000 in
set_option maxHeartbeats 2000000 in
theorem mgcp_sg (w : World) : Calls Tryd.prog 24 #[.agg (sgZ)] w fun e w' => e = .returned (.agg sgZ) ∧ Grew w w' := by
  have z1 := (Ag.new w 32 (sgZ)).grew (grew_alloc (grew_refl _) (.cells (#[.int .i64 0, .int .i64 0, .int .u64 0, .int .u64 0, .int .u64 0, .int .u64 0, .int .u64 0, .int .u64 0, .int .u64 0, .int .u64 0, .int .u64 0, .int .u64 0, .int .u64 0, .int .u64 0, .int .u64 0, .int .u64 0, .int .u64 0, .int .u64 0, .int .u64 0, .int .u64 0, .slice none 0 0] : Array Value) 32))
  have z2 := Ag.new (w.alloc (.cells (sgZ) 32)) 32 (#[.int .i64 0, .int .i64 0, .int .u64 0, .int .u64 0, .int .u64 0, .int .u64 0, .int .u64 0, .int .u64 0, .int .u64 0, .int .u64 0, .int .u64 0, .int .u64 0, .int .u64 0, .int .u64 0, .int .u64 0, .int .u64 0, .int .u64 0, .int .u64 0, .int .u64 0, .int .u64 0, .slice none 0 0] : Array Value)
  rw [alloc_size] at z2
  have G := grew_alloc (grew_alloc (grew_refl w) (.cells (sgZ) 32)) (.cells (#[.int .i64 0, .int .i64 0, .int .u64 0, .int .u64 0, .int .u64 0, .int .u64 0, .int .u64 0, .int .u64 0, .int .u64 0, .int .u64 0, .int .u64 0, .int .u64 0, .int .u64 0, .int .u64 0, .int .u64 0, .int .u64 0, .int .u64 0, .int .u64 0, .int .u64 0, .int .u64 0, .slice none 0 0] : Array Value) 32)
  have hut := Tryd.underlying32
  have hc0 := z1.cell 20 (.slice none 0 0) rfl
  simp only [Nat.zero_add] at hc0
  go_enter Tryd.func24, Tryd.ntmps24
  go_wp2_with fail
  refine (mgclone _).mono ?_
  rintro e w0 ⟨rfl, g0⟩
  clear hc0
  replace z1 := z1.grew g0
  replace z2 := z2.grew g0
  replace G := grew_trans G g0
  clear g0
  have hc0 := z1.cell 20 (.slice none 0 0) rfl
  have fc0 := (z1.there 20 (by show 20 < 21; omega)).2
  simp only [Nat.zero_add] at hc0 fc0
  have K := setCells_kp [.slice none 0 0] w.heap.size 20 w0
  replace z2 := z2.kp K (by show ¬ w.heap.size + 1 = w.heap.size; omega)
  replace z1 : Ag _ w.heap.size (sgZ : Array Value).toList := z1.setMid 20 [.slice none 0 0] (by show 20 + 1 ≤ 21; omega)
  replace G := setCells_grew (o := 20) (b := w.heap.size) [.slice none 0 0] G (Nat.le_refl _)
  obtain ⟨x0, hx0⟩ : ∃ v, w0.setCell ⟨w.heap.size, 20, none⟩ (.slice none 0 0) = v := ⟨_, rfl⟩
  rw [show w0.setCells w.heap.size 20 [.slice none 0 0] = x0 from hx0] at z1 z2 G
  clear K
  go_upto_region 2 with fail
  try rw [hx0]
  clear hx0 hc0 fc0
  have hmz := z1.cell
  have HLZ : Hid ((Tryd.prog.info? 32).map (·.size) = some (sgZ : Array Value).toList.length) := Lib.hid mi_sg
  have SIZ : Hid ((Tryd.prog.info? 32).map (·.size) = some (sgZ : Array Value).size) := Lib.hid mi_sg
  have ONZ : Hid ((sgZ : Array Value).all (·.oneCell') = true) := Lib.hid (by simp [Value.oneCell'])
  have THZ : Hid (World.there _ (w.heap.size + 1) 0 (sgZ : Array Value).size) := Lib.hid (z2.thereN 21 rfl)
  have z4 := Ag.set (vs := (sgZ : Array Value).toList) z2 rfl
  have G4 := setCells_grew (o := 0) (b := w.heap.size + 1) (sgZ : Array Value).toList G (by omega)
  clear z1 z2 G
  go_wp2_with (first | (with_reducible refine wpList_load_mid rfl 32 (.tmp 1) rfl w.heap.size 0 rfl (sgZ : Array Value).toList _ hmz hut rfl HLZ.out ?_; simp only [Array.toArray_toList]) | (with_reducible refine wpList_store_mid rfl 32 (.tmp 2) (.tmp 7) rfl (w.heap.size + 1) 0 (sgZ) rfl rfl THZ.out SIZ.out ONZ.out ?_))
  exact bodyPost_ret (results_mg Tryd.results24 _ _ (w.heap.size + 1) _ _ rfl z4 hut rfl mi_sg) rfl ⟨rfl, G4⟩
set_option maxRecDepth 100000 in
set_option maxHeartbeats 2000000 in
theorem mgcp_st (w : World) : Calls Tryd.prog 22 #[.agg (stZ)] w fun e w' => e = .returned (.agg stZ) ∧ Grew w w' := by
  have z1 := (Ag.new w 34 (stZ)).grew (grew_alloc (grew_refl _) (.cells (#[.int .u64 0, .int .i64 0, .int .i64 0, .int .i64 0, .int .i64 0, .int .u64 0, .int .u64 0, .int .u64 0, .int .u64 0, .int .u64 0, .int .u64 0, .int .u64 0, .int .u64 0, .int .u64 0, .int .u64 0, .int .u64 0, .int .u64 0, .int .u64 0, .int .u64 0, .int .u64 0, .int .u64 0, .int .u64 0, .int .u64 0, .slice none 0 0] : Array Value) 34))
  have z2 := Ag.new (w.alloc (.cells (stZ) 34)) 34 (#[.int .u64 0, .int .i64 0, .int .i64 0, .int .i64 0, .int .i64 0, .int .u64 0, .int .u64 0, .int .u64 0, .int .u64 0, .int .u64 0, .int .u64 0, .int .u64 0, .int .u64 0, .int .u64 0, .int .u64 0, .int .u64 0, .int .u64 0, .int .u64 0, .int .u64 0, .int .u64 0, .int .u64 0, .int .u64 0, .int .u64 0, .slice none 0 0] : Array Value)
  rw [alloc_size] at z2
  have G := grew_alloc (grew_alloc (grew_refl w) (.cells (stZ) 34)) (.cells (#[.int .u64 0, .int .i64 0, .int .i64 0, .int .i64 0, .int .i64 0, .int .u64 0, .int .u64 0, .int .u64 0, .int .u64 0, .int .u64 0, .int .u64 0, .int .u64 0, .int .u64 0, .int .u64 0, .int .u64 0, .int .u64 0, .int .u64 0, .int .u64 0, .int .u64 0, .int .u64 0, .int .u64 0, .int .u64 0, .int .u64 0, .slice none 0 0] : Array Value) 34)
  have hut := Tryd.underlying34
  have hu_sg := Tryd.underlying32
  have hm0 : World.rangeAt _ w.heap.size 3 (sgZ : Array Value).toList := z1.mid 3 21
  have HL0 : Hid ((Tryd.prog.info? 32).map (·.size) = some (sgZ : Array Value).toList.length) := Lib.hid mi_sg
  go_enter Tryd.func22, Tryd.ntmps22
  go_wp2_with (first | (with_reducible refine wpList_load_mid rfl 32 (.tmp 3) rfl w.heap.size 3 rfl (sgZ : Array Value).toList _ hm0 hu_sg rfl HL0.out ?_; simp only [Array.toArray_toList]))
  refine (mgcp_sg _).mono ?_
  rintro e w0 ⟨rfl, g0⟩
  clear hm0 HL0
  replace z1 := z1.grew g0
  replace z2 := z2.grew g0
  replace G := grew_trans G g0
  clear g0
  have TH0 : Hid (w0.there w.heap.size 3 (sgZ : Array Value).size) := Lib.hid (z1.thereMid 3 21 (by show _ ≤ 24; omega))
  have SI0 : Hid ((Tryd.prog.info? 32).map (·.size) = some (sgZ : Array Value).size) := Lib.hid mi_sg
  have ON0 : Hid ((sgZ : Array Value).all (·.oneCell') = true) := Lib.hid (by simp [Value.oneCell'])
  have K := setCells_kp (sgZ : Array Value).toList w.heap.size 3 w0
  replace z2 := z2.kp K (by show ¬ w.heap.size + 1 = w.heap.size; omega)
  replace z1 : Ag _ w.heap.size (stZ : Array Value).toList := z1.setMid 3 (sgZ : Array Value).toList (by show 3 + 21 ≤ 24; omega)
  replace G := setCells_grew (o := 3) (b := w.heap.size) (sgZ : Array Value).toList G (Nat.le_refl _)
  obtain ⟨x0, hx0⟩ : ∃ v, w0.setCells w.heap.size 3 (sgZ : Array Value).toList = v := ⟨_, rfl⟩
  rw [hx0] at z1 z2 G
  have HX0 := Lib.hid hx0
  clear K hx0
  have hmz := z1.cell
  have HLZ : Hid ((Tryd.prog.info? 34).map (·.size) = some (stZ : Array Value).toList.length) := Lib.hid mi_st
  have SIZ : Hid ((Tryd.prog.info? 34).map (·.size) = some (stZ : Array Value).size) := Lib.hid mi_st
  have ONZ : Hid ((stZ : Array Value).all (·.oneCell') = true) := Lib.hid (by simp [Value.oneCell'])
  have THZ : Hid (World.there _ (w.heap.size + 1) 0 (stZ : Array Value).size) := Lib.hid (z2.thereN 24 rfl)
  have z4 := Ag.set (vs := (stZ : Array Value).toList) z2 rfl
  have G4 := setCells_grew (o := 0) (b := w.heap.size + 1) (stZ : Array Value).toList G (by omega)
  clear z1 z2 G
  go_wp2_with (first | (with_reducible refine wpList_store_mid rfl 32 (.tmp 6) (.tmp 5) rfl w.heap.size 3 (sgZ) rfl rfl TH0.out SI0.out ON0.out ?_; rw [HX0.out]; clear HX0 TH0 SI0 ON0) | (with_reducible refine wpList_load_mid rfl 34 (.tmp 1) rfl w.heap.size 0 rfl (stZ : Array Value).toList _ hmz hut rfl HLZ.out ?_; simp only [Array.toArray_toList]) | (with_reducible refine wpList_store_mid rfl 34 (.tmp 2) (.tmp 7) rfl (w.heap.size + 1) 0 (stZ) rfl rfl THZ.out SIZ.out ONZ.out ?_))
  exact bodyPost_ret (results_mg Tryd.results22 _ _ (w.heap.size + 1) _ _ rfl z4 hut rfl mi_st) rfl ⟨rfl, G4⟩
set_option maxRecDepth 100000 in
theorem mgmap_st (w : World) : Calls Tryd.prog 40 #[.slice none 0 0, .func (.func 22) #[] #[]] w fun e w' => (∃ b, e = .returned (.slice (some ⟨b, 0, none⟩) 0 0)) ∧ Grew w w' := by
  obtain ⟨i0, hi, hz0, hz1, hz2⟩ : ∃ i, Tryd.prog.info? 34 = some i ∧ i.zero = some (.agg #[.int .u64 0, .int .i64 0, .int .i64 0, .int .i64 0, .int .i64 0, .int .u64 0, .int .u64 0, .int .u64 0, .int .u64 0, .int .u64 0, .int .u64 0, .int .u64 0, .int .u64 0, .int .u64 0, .int .u64 0, .int .u64 0, .int .u64 0, .int .u64 0, .int .u64 0, .int .u64 0, .int .u64 0, .int .u64 0, .int .u64 0, .slice none 0 0]) ∧ i.size = 24 ∧ True := by
    obtain ⟨i, h, h1⟩ := Option.map_eq_some_iff.1 (show (Tryd.prog.info? 34).map (fun i => (i.zero, i.size)) = some (some (.agg (#[.int .u64 0, .int .i64 0, .int .i64 0, .int .i64 0, .int .i64 0, .int .u64 0, .int .u64 0, .int .u64 0, .int .u64 0, .int .u64 0, .int .u64 0, .int .u64 0, .int .u64 0, .int .u64 0, .int .u64 0, .int .u64 0, .int .u64 0, .int .u64 0, .int .u64 0, .int .u64 0, .int .u64 0, .int .u64 0, .int .u64 0, .slice none 0 0] : Array Value)), 24) by kernel_rfl)
    exact ⟨i, h, congrArg Prod.fst h1, congrArg Prod.snd h1, trivial⟩
  obtain ⟨w1, hmk, -, hgrow1⟩ := run_make_own (P := Tryd.prog) w w.heap.size 35 34 i0 (.agg #[.int .u64 0, .int .i64 0, .int .i64 0, .int .i64 0, .int .i64 0, .int .u64 0, .int .u64 0, .int .u64 0, .int .u64 0, .int .u64 0, .int .u64 0, .int .u64 0, .int .u64 0, .int .u64 0, .int .u64 0, .int .u64 0, .int .u64 0, .int .u64 0, .int .u64 0, .int .u64 0, .int .u64 0, .int .u64 0, .int .u64 0, .slice none 0 0]) 24 Tryd.underlying35 hi hz0 hz1 .i64 .i64 0 (by omega) (by unfold maxLen; omega) (Nat.le_refl _)
  have hg1 : Grew w w1 := (Below.refl _ w).grown hgrow1 (Nat.le_refl _) (fun j hj => by cases hj)
  rw [show ((0 : Nat) : Int) = 0 from rfl] at hmk
  clear hgrow1 hi hz0 hz1 hz2
  go_enter Tryd.func40, Tryd.ntmps40
  go_wp2_with fail
  clear hmk
  go_loopw [5, 13] (fun rv iv wr => rv = .slice (some ⟨w.heap.size, 0, none⟩) 0 0 ∧ iv = .int .i64 0 ∧ Grew w wr) (fun _ _ _ => 0)
  case atStart => exact ⟨rfl, rfl, hg1⟩
  case round =>
    obtain ⟨rfl, rfl, hg⟩ := hrel
    go_wp2_with fail
    go_ret
    exact ⟨⟨_, rfl⟩, hg⟩
set_option maxRecDepth 100000 in
set_option maxHeartbeats 2000000 in
theorem mgcp_ct (w : World) : Calls Tryd.prog 23 #[.agg (ctZ (.slice none 0 0))] w fun e w' => (∃ b, e = .returned (.agg (ctZ (.slice (some ⟨b, 0, none⟩) 0 0)))) ∧ Grew w w' := by
  have z1 := (Ag.new w 37 (ctZ (.slice none 0 0))).grew (grew_alloc (grew_refl _) (.cells (#[.int .i64 0, .int .i64 0, .int .i64 0, .int .i64 0, .int .i64 0, .slice none 0 0] : Array Value) 37))
  have z2 := Ag.new (w.alloc (.cells (ctZ (.slice none 0 0)) 37)) 37 (#[.int .i64 0, .int .i64 0, .int .i64 0, .int .i64 0, .int .i64 0, .slice none 0 0] : Array Value)
  rw [alloc_size] at z2
  have G := grew_alloc (grew_alloc (grew_refl w) (.cells (ctZ (.slice none 0 0)) 37)) (.cells (#[.int .i64 0, .int .i64 0, .int .i64 0, .int .i64 0, .int .i64 0, .slice none 0 0] : Array Value) 37)
  have hut := Tryd.underlying37
  have hc0 := z1.cell 5 (.slice none 0 0) rfl
  simp only [Nat.zero_add] at hc0
  go_enter Tryd.func23, Tryd.ntmps23
  go_wp2_with fail
  refine (mgmap_st _).mono ?_
  rintro e w0 ⟨⟨b0, rfl⟩, g0⟩
  clear hc0
  replace z1 := z1.grew g0
  replace z2 := z2.grew g0
  replace G := grew_trans G g0
  clear g0
  have hc0 := z1.cell 5 (.slice none 0 0) rfl
  have fc0 := (z1.there 5 (by show 5 < 6; omega)).2
  simp only [Nat.zero_add] at hc0 fc0
  have K := setCells_kp [.slice (some ⟨b0, 0, none⟩) 0 0] w.heap.size 5 w0
  replace z2 := z2.kp K (by show ¬ w.heap.size + 1 = w.heap.size; omega)
  replace z1 : Ag _ w.heap.size (ctZ (.slice (some ⟨b0, 0, none⟩) 0 0) : Array Value).toList := z1.setMid 5 [.slice (some ⟨b0, 0, none⟩) 0 0] (by show 5 + 1 ≤ 6; omega)
  replace G := setCells_grew (o := 5) (b := w.heap.size) [.slice (some ⟨b0, 0, none⟩) 0 0] G (Nat.le_refl _)
  obtain ⟨x0, hx0⟩ : ∃ v, w0.setCell ⟨w.heap.size, 5, none⟩ (.slice (some ⟨b0, 0, none⟩) 0 0) = v := ⟨_, rfl⟩
  rw [show w0.setCells w.heap.size 5 [.slice (some ⟨b0, 0, none⟩) 0 0] = x0 from hx0] at z1 z2 G
  clear K
  go_upto_region 2 with fail
  try rw [hx0]
  clear hx0 hc0 fc0
  have hmz := z1.cell
  have HLZ : Hid ((Tryd.prog.info? 37).map (·.size) = some (ctZ (.slice (some ⟨b0, 0, none⟩) 0 0) : Array Value).toList.length) := Lib.hid mi_ct
  have SIZ : Hid ((Tryd.prog.info? 37).map (·.size) = some (ctZ (.slice (some ⟨b0, 0, none⟩) 0 0) : Array Value).size) := Lib.hid mi_ct
  have ONZ : Hid ((ctZ (.slice (some ⟨b0, 0, none⟩) 0 0) : Array Value).all (·.oneCell') = true) := Lib.hid (by simp [Value.oneCell'])
  have THZ : Hid (World.there _ (w.heap.size + 1) 0 (ctZ (.slice (some ⟨b0, 0, none⟩) 0 0) : Array Value).size) := Lib.hid (z2.thereN 6 rfl)
  have z4 := Ag.set (vs := (ctZ (.slice (some ⟨b0, 0, none⟩) 0 0) : Array Value).toList) z2 rfl
  have G4 := setCells_grew (o := 0) (b := w.heap.size + 1) (ctZ (.slice (some ⟨b0, 0, none⟩) 0 0) : Array Value).toList G (by omega)
  clear z1 z2 G
  go_wp2_with (first | (with_reducible refine wpList_load_mid rfl 37 (.tmp 1) rfl w.heap.size 0 rfl (ctZ (.slice (some ⟨b0, 0, none⟩) 0 0) : Array Value).toList _ hmz hut rfl HLZ.out ?_; simp only [Array.toArray_toList]) | (with_reducible refine wpList_store_mid rfl 37 (.tmp 2) (.tmp 7) rfl (w.heap.size + 1) 0 (ctZ (.slice (some ⟨b0, 0, none⟩) 0 0)) rfl rfl THZ.out SIZ.out ONZ.out ?_))
  exact bodyPost_ret (results_mg Tryd.results23 _ _ (w.heap.size + 1) _ _ rfl z4 hut rfl mi_ct) rfl ⟨⟨b0, rfl⟩, G4⟩
set_option maxRecDepth 100000 in
theorem mgmap_ct (w : World) : Calls Tryd.prog 42 #[.slice none 0 0, .func (.func 23) #[] #[]] w fun e w' => (∃ b, e = .returned (.slice (some ⟨b, 0, none⟩) 0 0)) ∧ Grew w w' := by
  obtain ⟨i0, hi, hz0, hz1, hz2⟩ : ∃ i, Tryd.prog.info? 37 = some i ∧ i.zero = some (.agg #[.int .i64 0, .int .i64 0, .int .i64 0, .int .i64 0, .int .i64 0, .slice none 0 0]) ∧ i.size = 6 ∧ True := by
    obtain ⟨i, h, h1⟩ := Option.map_eq_some_iff.1 (show (Tryd.prog.info? 37).map (fun i => (i.zero, i.size)) = some (some (.agg (#[.int .i64 0, .int .i64 0, .int .i64 0, .int .i64 0, .int .i64 0, .slice none 0 0] : Array Value)), 6) by kernel_rfl)
    exact ⟨i, h, congrArg Prod.fst h1, congrArg Prod.snd h1, trivial⟩
  obtain ⟨w1, hmk, -, hgrow1⟩ := run_make_own (P := Tryd.prog) w w.heap.size 40 37 i0 (.agg #[.int .i64 0, .int .i64 0, .int .i64 0, .int .i64 0, .int .i64 0, .slice none 0 0]) 6 Tryd.underlying40 hi hz0 hz1 .i64 .i64 0 (by omega) (by unfold maxLen; omega) (Nat.le_refl _)
  have hg1 : Grew w w1 := (Below.refl _ w).grown hgrow1 (Nat.le_refl _) (fun j hj => by cases hj)
  rw [show ((0 : Nat) : Int) = 0 from rfl] at hmk
  clear hgrow1 hi hz0 hz1 hz2
  go_enter Tryd.func42, Tryd.ntmps42
  go_wp2_with fail
  clear hmk
  go_loopw [5, 13] (fun rv iv wr => rv = .slice (some ⟨w.heap.size, 0, none⟩) 0 0 ∧ iv = .int .i64 0 ∧ Grew w wr) (fun _ _ _ => 0)
  case atStart => exact ⟨rfl, rfl, hg1⟩
  case round =>
    obtain ⟨rfl, rfl, hg⟩ := hrel
    go_wp2_with fail
    go_ret
    exact ⟨⟨_, rfl⟩, hg⟩
set_option maxRecDepth 100000 in
set_option maxHeartbeats 2000000 in
theorem mgcp_re (w : World) : Calls Tryd.prog 25 #[.agg (reZ (.slice none 0 0))] w fun e w' => (∃ b, e = .returned (.agg (reZ (.slice (some ⟨b, 0, none⟩) 0 0)))) ∧ Grew w w' := by
  have z1 := (Ag.new w 42 (reZ (.slice none 0 0))).grew (grew_alloc (grew_refl _) (.cells (#[.int .i64 0, .int .i64 0, .int .i64 0, .slice none 0 0, .int .i64 0, .int .i64 0, .int .u64 0, .int .u64 0, .int .u64 0, .int .u64 0, .int .u64 0, .int .u64 0, .int .u64 0, .int .u64 0, .int .u64 0, .int .u64 0, .int .u64 0, .int .u64 0, .int .u64 0, .int .u64 0, .int .u64 0, .int .u64 0, .int .u64 0, .int .u64 0, .slice none 0 0] : Array Value) 42))
  have z2 := Ag.new (w.alloc (.cells (reZ (.slice none 0 0)) 42)) 42 (#[.int .i64 0, .int .i64 0, .int .i64 0, .slice none 0 0, .int .i64 0, .int .i64 0, .int .u64 0, .int .u64 0, .int .u64 0, .int .u64 0, .int .u64 0, .int .u64 0, .int .u64 0, .int .u64 0, .int .u64 0, .int .u64 0, .int .u64 0, .int .u64 0, .int .u64 0, .int .u64 0, .int .u64 0, .int .u64 0, .int .u64 0, .int .u64 0, .slice none 0 0] : Array Value)
  rw [alloc_size] at z2
  have G := grew_alloc (grew_alloc (grew_refl w) (.cells (reZ (.slice none 0 0)) 42)) (.cells (#[.int .i64 0, .int .i64 0, .int .i64 0, .slice none 0 0, .int .i64 0, .int .i64 0, .int .u64 0, .int .u64 0, .int .u64 0, .int .u64 0, .int .u64 0, .int .u64 0, .int .u64 0, .int .u64 0, .int .u64 0, .int .u64 0, .int .u64 0, .int .u64 0, .int .u64 0, .int .u64 0, .int .u64 0, .int .u64 0, .int .u64 0, .int .u64 0, .slice none 0 0] : Array Value) 42)
  have hut := Tryd.underlying42
  have hu_sg := Tryd.underlying32
  have hc0 := z1.cell 3 (.slice none 0 0) rfl
  simp only [Nat.zero_add] at hc0
  go_enter Tryd.func25, Tryd.ntmps25
  go_wp2_with fail
  refine (mgmap_ct _).mono ?_
  rintro e w0 ⟨⟨b0, rfl⟩, g0⟩
  clear hc0
  replace z1 := z1.grew g0
  replace z2 := z2.grew g0
  replace G := grew_trans G g0
  clear g0
  have hc0 := z1.cell 3 (.slice none 0 0) rfl
  have fc0 := (z1.there 3 (by show 3 < 25; omega)).2
  simp only [Nat.zero_add] at hc0 fc0
  have K := setCells_kp [.slice (some ⟨b0, 0, none⟩) 0 0] w.heap.size 3 w0
  replace z2 := z2.kp K (by show ¬ w.heap.size + 1 = w.heap.size; omega)
  replace z1 : Ag _ w.heap.size (reZ (.slice (some ⟨b0, 0, none⟩) 0 0) : Array Value).toList := z1.setMid 3 [.slice (some ⟨b0, 0, none⟩) 0 0] (by show 3 + 1 ≤ 25; omega)
  replace G := setCells_grew (o := 3) (b := w.heap.size) [.slice (some ⟨b0, 0, none⟩) 0 0] G (Nat.le_refl _)
  obtain ⟨x0, hx0⟩ : ∃ v, w0.setCell ⟨w.heap.size, 3, none⟩ (.slice (some ⟨b0, 0, none⟩) 0 0) = v := ⟨_, rfl⟩
  rw [show w0.setCells w.heap.size 3 [.slice (some ⟨b0, 0, none⟩) 0 0] = x0 from hx0] at z1 z2 G
  clear K
  go_upto_region 2 with fail
  try rw [hx0]
  clear hx0 hc0 fc0
  have hm1 : World.rangeAt _ w.heap.size 4 (sgZ : Array Value).toList := z1.mid 4 21
  have HL1 : Hid ((Tryd.prog.info? 32).map (·.size) = some (sgZ : Array Value).toList.length) := Lib.hid mi_sg
  go_wp2_with (first | (with_reducible refine wpList_load_mid rfl 32 (.tmp 7) rfl w.heap.size 4 rfl (sgZ : Array Value).toList _ hm1 hu_sg rfl HL1.out ?_; simp only [Array.toArray_toList]))
  refine (mgcp_sg _).mono ?_
  rintro e w1 ⟨rfl, g1⟩
  clear hm1 HL1
  replace z1 := z1.grew g1
  replace z2 := z2.grew g1
  replace G := grew_trans G g1
  clear g1
  have TH1 : Hid (w1.there w.heap.size 4 (sgZ : Array Value).size) := Lib.hid (z1.thereMid 4 21 (by show _ ≤ 25; omega))
  have SI1 : Hid ((Tryd.prog.info? 32).map (·.size) = some (sgZ : Array Value).size) := Lib.hid mi_sg
  have ON1 : Hid ((sgZ : Array Value).all (·.oneCell') = true) := Lib.hid (by simp [Value.oneCell'])
  have K := setCells_kp (sgZ : Array Value).toList w.heap.size 4 w1
  replace z2 := z2.kp K (by show ¬ w.heap.size + 1 = w.heap.size; omega)
  replace z1 : Ag _ w.heap.size (reZ (.slice (some ⟨b0, 0, none⟩) 0 0) : Array Value).toList := z1.setMid 4 (sgZ : Array Value).toList (by show 4 + 21 ≤ 25; omega)
  replace G := setCells_grew (o := 4) (b := w.heap.size) (sgZ : Array Value).toList G (Nat.le_refl _)
  obtain ⟨x1, hx1⟩ : ∃ v, w1.setCells w.heap.size 4 (sgZ : Array Value).toList = v := ⟨_, rfl⟩
  rw [hx1] at z1 z2 G
  have HX1 := Lib.hid hx1
  clear K hx1
  have hmz := z1.cell
  have HLZ : Hid ((Tryd.prog.info? 42).map (·.size) = some (reZ (.slice (some ⟨b0, 0, none⟩) 0 0) : Array Value).toList.length) := Lib.hid mi_re
  have SIZ : Hid ((Tryd.prog.info? 42).map (·.size) = some (reZ (.slice (some ⟨b0, 0, none⟩) 0 0) : Array Value).size) := Lib.hid mi_re
  have ONZ : Hid ((reZ (.slice (some ⟨b0, 0, none⟩) 0 0) : Array Value).all (·.oneCell') = true) := Lib.hid (by simp [Value.oneCell'])
  have THZ : Hid (World.there _ (w.heap.size + 1) 0 (reZ (.slice (some ⟨b0, 0, none⟩) 0 0) : Array Value).size) := Lib.hid (z2.thereN 25 rfl)
  have z4 := Ag.set (vs := (reZ (.slice (some ⟨b0, 0, none⟩) 0 0) : Array Value).toList) z2 rfl
  have G4 := setCells_grew (o := 0) (b := w.heap.size + 1) (reZ (.slice (some ⟨b0, 0, none⟩) 0 0) : Array Value).toList G (by omega)
  clear z1 z2 G
  go_wp2_with (first | (with_reducible refine wpList_store_mid rfl 32 (.tmp 10) (.tmp 9) rfl w.heap.size 4 (sgZ) rfl rfl TH1.out SI1.out ON1.out ?_; rw [HX1.out]; clear HX1 TH1 SI1 ON1) | (with_reducible refine wpList_load_mid rfl 42 (.tmp 1) rfl w.heap.size 0 rfl (reZ (.slice (some ⟨b0, 0, none⟩) 0 0) : Array Value).toList _ hmz hut rfl HLZ.out ?_; simp only [Array.toArray_toList]) | (with_reducible refine wpList_store_mid rfl 42 (.tmp 2) (.tmp 11) rfl (w.heap.size + 1) 0 (reZ (.slice (some ⟨b0, 0, none⟩) 0 0)) rfl rfl THZ.out SIZ.out ONZ.out ?_))
  exact bodyPost_ret (results_mg Tryd.results25 _ _ (w.heap.size + 1) _ _ rfl z4 hut rfl mi_re) rfl ⟨⟨b0, rfl⟩, G4⟩
set_option maxRecDepth 100000 in
set_option maxHeartbeats 2000000 in
theorem mgcp_vo (w : World) : Calls Tryd.prog 27 #[.agg (voZ)] w fun e w' => e = .returned (.agg voZ) ∧ Grew w w' := by
  have z1 := (Ag.new w 50 (voZ)).grew (grew_alloc (grew_refl _) (.cells (#[.int .i64 0, .int .u64 0, .int .i64 0, .int .i64 0, .int .i64 0, .int .u64 0, .int .u64 0, .int .u64 0, .int .u64 0, .int .u64 0, .int .u64 0, .int .u64 0, .int .u64 0, .int .u64 0, .int .u64 0, .int .u64 0, .int .u64 0, .int .u64 0, .int .u64 0, .int .u64 0, .int .u64 0, .int .u64 0, .int .u64 0, .slice none 0 0] : Array Value) 50))
  have z2 := Ag.new (w.alloc (.cells (voZ) 50)) 50 (#[.int .i64 0, .int .u64 0, .int .i64 0, .int .i64 0, .int .i64 0, .int .u64 0, .int .u64 0, .int .u64 0, .int .u64 0, .int .u64 0, .int .u64 0, .int .u64 0, .int .u64 0, .int .u64 0, .int .u64 0, .int .u64 0, .int .u64 0, .int .u64 0, .int .u64 0, .int .u64 0, .int .u64 0, .int .u64 0, .int .u64 0, .slice none 0 0] : Array Value)
  rw [alloc_size] at z2
  have G := grew_alloc (grew_alloc (grew_refl w) (.cells (voZ) 50)) (.cells (#[.int .i64 0, .int .u64 0, .int .i64 0, .int .i64 0, .int .i64 0, .int .u64 0, .int .u64 0, .int .u64 0, .int .u64 0, .int .u64 0, .int .u64 0, .int .u64 0, .int .u64 0, .int .u64 0, .int .u64 0, .int .u64 0, .int .u64 0, .int .u64 0, .int .u64 0, .int .u64 0, .int .u64 0, .int .u64 0, .int .u64 0, .slice none 0 0] : Array Value) 50)
  have hut := Tryd.underlying50
  have hu_sg := Tryd.underlying32
  have hm0 : World.rangeAt _ w.heap.size 3 (sgZ : Array Value).toList := z1.mid 3 21
  have HL0 : Hid ((Tryd.prog.info? 32).map (·.size) = some (sgZ : Array Value).toList.length) := Lib.hid mi_sg
  go_enter Tryd.func27, Tryd.ntmps27
  go_wp2_with (first | (with_reducible refine wpList_load_mid rfl 32 (.tmp 3) rfl w.heap.size 3 rfl (sgZ : Array Value).toList _ hm0 hu_sg rfl HL0.out ?_; simp only [Array.toArray_toList]))
  refine (mgcp_sg _).mono ?_
  rintro e w0 ⟨rfl, g0⟩
  clear hm0 HL0
  replace z1 := z1.grew g0
  replace z2 := z2.grew g0
  replace G := grew_trans G g0
  clear g0
  have TH0 : Hid (w0.there w.heap.size 3 (sgZ : Array Value).size) := Lib.hid (z1.thereMid 3 21 (by show _ ≤ 24; omega))
  have SI0 : Hid ((Tryd.prog.info? 32).map (·.size) = some (sgZ : Array Value).size) := Lib.hid mi_sg
  have ON0 : Hid ((sgZ : Array Value).all (·.oneCell') = true) := Lib.hid (by simp [Value.oneCell'])
  have K := setCells_kp (sgZ : Array Value).toList w.heap.size 3 w0
  replace z2 := z2.kp K (by show ¬ w.heap.size + 1 = w.heap.size; omega)
  replace z1 : Ag _ w.heap.size (voZ : Array Value).toList := z1.setMid 3 (sgZ : Array Value).toList (by show 3 + 21 ≤ 24; omega)
  replace G := setCells_grew (o := 3) (b := w.heap.size) (sgZ : Array Value).toList G (Nat.le_refl _)
  obtain ⟨x0, hx0⟩ : ∃ v, w0.setCells w.heap.size 3 (sgZ : Array Value).toList = v := ⟨_, rfl⟩
  rw [hx0] at z1 z2 G
  have HX0 := Lib.hid hx0
  clear K hx0
  have hmz := z1.cell
  have HLZ : Hid ((Tryd.prog.info? 50).map (·.size) = some (voZ : Array Value).toList.length) := Lib.hid mi_vo
  have SIZ : Hid ((Tryd.prog.info? 50).map (·.size) = some (voZ : Array Value).size) := Lib.hid mi_vo
  have ONZ : Hid ((voZ : Array Value).all (·.oneCell') = true) := Lib.hid (by simp [Value.oneCell'])
  have THZ : Hid (World.there _ (w.heap.size + 1) 0 (voZ : Array Value).size) := Lib.hid (z2.thereN 24 rfl)
  have z4 := Ag.set (vs := (voZ : Array Value).toList) z2 rfl
  have G4 := setCells_grew (o := 0) (b := w.heap.size + 1) (voZ : Array Value).toList G (by omega)
  clear z1 z2 G
  go_wp2_with (first | (with_reducible refine wpList_store_mid rfl 32 (.tmp 6) (.tmp 5) rfl w.heap.size 3 (sgZ) rfl rfl TH0.out SI0.out ON0.out ?_; rw [HX0.out]; clear HX0 TH0 SI0 ON0) | (with_reducible refine wpList_load_mid rfl 50 (.tmp 1) rfl w.heap.size 0 rfl (voZ : Array Value).toList _ hmz hut rfl HLZ.out ?_; simp only [Array.toArray_toList]) | (with_reducible refine wpList_store_mid rfl 50 (.tmp 2) (.tmp 7) rfl (w.heap.size + 1) 0 (voZ) rfl rfl THZ.out SIZ.out ONZ.out ?_))
  exact bodyPost_ret (results_mg Tryd.results27 _ _ (w.heap.size + 1) _ _ rfl z4 hut rfl mi_vo) rfl ⟨rfl, G4⟩
set_option maxRecDepth 100000 in
theorem mgmap_vo (w : World) : Calls Tryd.prog 44 #[.slice none 0 0, .func (.func 27) #[] #[]] w fun e w' => (∃ b, e = .returned (.slice (some ⟨b, 0, none⟩) 0 0)) ∧ Grew w w' := by
  obtain ⟨i0, hi, hz0, hz1, hz2⟩ : ∃ i, Tryd.prog.info? 50 = some i ∧ i.zero = some (.agg #[.int .i64 0, .int .u64 0, .int .i64 0, .int .i64 0, .int .i64 0, .int .u64 0, .int .u64 0, .int .u64 0, .int .u64 0, .int .u64 0, .int .u64 0, .int .u64 0, .int .u64 0, .int .u64 0, .int .u64 0, .int .u64 0, .int .u64 0, .int .u64 0, .int .u64 0, .int .u64 0, .int .u64 0, .int .u64 0, .int .u64 0, .slice none 0 0]) ∧ i.size = 24 ∧ True := by
    obtain ⟨i, h, h1⟩ := Option.map_eq_some_iff.1 (show (Tryd.prog.info? 50).map (fun i => (i.zero, i.size)) = some (some (.agg (#[.int .i64 0, .int .u64 0, .int .i64 0, .int .i64 0, .int .i64 0, .int .u64 0, .int .u64 0, .int .u64 0, .int .u64 0, .int .u64 0, .int .u64 0, .int .u64 0, .int .u64 0, .int .u64 0, .int .u64 0, .int .u64 0, .int .u64 0, .int .u64 0, .int .u64 0, .int .u64 0, .int .u64 0, .int .u64 0, .int .u64 0, .slice none 0 0] : Array Value)), 24) by kernel_rfl)
    exact ⟨i, h, congrArg Prod.fst h1, congrArg Prod.snd h1, trivial⟩
  obtain ⟨w1, hmk, -, hgrow1⟩ := run_make_own (P := Tryd.prog) w w.heap.size 43 50 i0 (.agg #[.int .i64 0, .int .u64 0, .int .i64 0, .int .i64 0, .int .i64 0, .int .u64 0, .int .u64 0, .int .u64 0, .int .u64 0, .int .u64 0, .int .u64 0, .int .u64 0, .int .u64 0, .int .u64 0, .int .u64 0, .int .u64 0, .int .u64 0, .int .u64 0, .int .u64 0, .int .u64 0, .int .u64 0, .int .u64 0, .int .u64 0, .slice none 0 0]) 24 Tryd.underlying43 hi hz0 hz1 .i64 .i64 0 (by omega) (by unfold maxLen; omega) (Nat.le_refl _)
  have hg1 : Grew w w1 := (Below.refl _ w).grown hgrow1 (Nat.le_refl _) (fun j hj => by cases hj)
  rw [show ((0 : Nat) : Int) = 0 from rfl] at hmk
  clear hgrow1 hi hz0 hz1 hz2
  go_enter Tryd.func44, Tryd.ntmps44
  go_wp2_with fail
  clear hmk
  go_loopw [5, 13] (fun rv iv wr => rv = .slice (some ⟨w.heap.size, 0, none⟩) 0 0 ∧ iv = .int .i64 0 ∧ Grew w wr) (fun _ _ _ => 0)
  case atStart => exact ⟨rfl, rfl, hg1⟩
  case round =>
    obtain ⟨rfl, rfl, hg⟩ := hrel
    go_wp2_with fail
    go_ret
    exact ⟨⟨_, rfl⟩, hg⟩
set_option maxRecDepth 100000 in
set_option maxHeartbeats 2000000 in
theorem mgcp_qc (w : World) : Calls Tryd.prog 28 #[.agg (qcZ (.slice none 0 0))] w fun e w' => (∃ b, e = .returned (.agg (qcZ (.slice (some ⟨b, 0, none⟩) 0 0)))) ∧ Grew w w' := by
  have z1 := (Ag.new w 45 (qcZ (.slice none 0 0))).grew (grew_alloc (grew_refl _) (.cells (#[.int .i64 0, .int .u64 0, .slice none 0 0] : Array Value) 45))
  have z2 := Ag.new (w.alloc (.cells (qcZ (.slice none 0 0)) 45)) 45 (#[.int .i64 0, .int .u64 0, .slice none 0 0] : Array Value)
  rw [alloc_size] at z2
  have G := grew_alloc (grew_alloc (grew_refl w) (.cells (qcZ (.slice none 0 0)) 45)) (.cells (#[.int .i64 0, .int .u64 0, .slice none 0 0] : Array Value) 45)
  have hut := Tryd.underlying45
  have hc0 := z1.cell 2 (.slice none 0 0) rfl
  simp only [Nat.zero_add] at hc0
  go_enter Tryd.func28, Tryd.ntmps28
  go_wp2_with fail
  refine (mgmap_vo _).mono ?_
  rintro e w0 ⟨⟨b0, rfl⟩, g0⟩
  clear hc0
  replace z1 := z1.grew g0
  replace z2 := z2.grew g0
  replace G := grew_trans G g0
  clear g0
  have hc0 := z1.cell 2 (.slice none 0 0) rfl
  have fc0 := (z1.there 2 (by show 2 < 3; omega)).2
  simp only [Nat.zero_add] at hc0 fc0
  have K := setCells_kp [.slice (some ⟨b0, 0, none⟩) 0 0] w.heap.size 2 w0
  replace z2 := z2.kp K (by show ¬ w.heap.size + 1 = w.heap.size; omega)
  replace z1 : Ag _ w.heap.size (qcZ (.slice (some ⟨b0, 0, none⟩) 0 0) : Array Value).toList := z1.setMid 2 [.slice (some ⟨b0, 0, none⟩) 0 0] (by show 2 + 1 ≤ 3; omega)
  replace G := setCells_grew (o := 2) (b := w.heap.size) [.slice (some ⟨b0, 0, none⟩) 0 0] G (Nat.le_refl _)
  obtain ⟨x0, hx0⟩ : ∃ v, w0.setCell ⟨w.heap.size, 2, none⟩ (.slice (some ⟨b0, 0, none⟩) 0 0) = v := ⟨_, rfl⟩
  rw [show w0.setCells w.heap.size 2 [.slice (some ⟨b0, 0, none⟩) 0 0] = x0 from hx0] at z1 z2 G
  clear K
  go_upto_region 2 with fail
  try rw [hx0]
  clear hx0 hc0 fc0
  have hmz := z1.cell
  have HLZ : Hid ((Tryd.prog.info? 45).map (·.size) = some (qcZ (.slice (some ⟨b0, 0, none⟩) 0 0) : Array Value).toList.length) := Lib.hid mi_qc
  have SIZ : Hid ((Tryd.prog.info? 45).map (·.size) = some (qcZ (.slice (some ⟨b0, 0, none⟩) 0 0) : Array Value).size) := Lib.hid mi_qc
  have ONZ : Hid ((qcZ (.slice (some ⟨b0, 0, none⟩) 0 0) : Array Value).all (·.oneCell') = true) := Lib.hid (by simp [Value.oneCell'])
  have THZ : Hid (World.there _ (w.heap.size + 1) 0 (qcZ (.slice (some ⟨b0, 0, none⟩) 0 0) : Array Value).size) := Lib.hid (z2.thereN 3 rfl)
  have z4 := Ag.set (vs := (qcZ (.slice (some ⟨b0, 0, none⟩) 0 0) : Array Value).toList) z2 rfl
  have G4 := setCells_grew (o := 0) (b := w.heap.size + 1) (qcZ (.slice (some ⟨b0, 0, none⟩) 0 0) : Array Value).toList G (by omega)
  clear z1 z2 G
  go_wp2_with (first | (with_reducible refine wpList_load_mid rfl 45 (.tmp 1) rfl w.heap.size 0 rfl (qcZ (.slice (some ⟨b0, 0, none⟩) 0 0) : Array Value).toList _ hmz hut rfl HLZ.out ?_; simp only [Array.toArray_toList]) | (with_reducible refine wpList_store_mid rfl 45 (.tmp 2) (.tmp 7) rfl (w.heap.size + 1) 0 (qcZ (.slice (some ⟨b0, 0, none⟩) 0 0)) rfl rfl THZ.out SIZ.out ONZ.out ?_))
  exact bodyPost_ret (results_mg Tryd.results28 _ _ (w.heap.size + 1) _ _ rfl z4 hut rfl mi_qc) rfl ⟨⟨b0, rfl⟩, G4⟩
set_option maxRecDepth 100000 in
theorem mgmap_re (w : World) : Calls Tryd.prog 43 #[.slice none 0 0, .func (.func 25) #[] #[]] w fun e w' => (∃ b, e = .returned (.slice (some ⟨b, 0, none⟩) 0 0)) ∧ Grew w w' := by
  obtain ⟨i0, hi, hz0, hz1, hz2⟩ : ∃ i, Tryd.prog.info? 42 = some i ∧ i.zero = some (.agg #[.int .i64 0, .int .i64 0, .int .i64 0, .slice none 0 0, .int .i64 0, .int .i64 0, .int .u64 0, .int .u64 0, .int .u64 0, .int .u64 0, .int .u64 0, .int .u64 0, .int .u64 0, .int .u64 0, .int .u64 0, .int .u64 0, .int .u64 0, .int .u64 0, .int .u64 0, .int .u64 0, .int .u64 0, .int .u64 0, .int .u64 0, .int .u64 0, .slice none 0 0]) ∧ i.size = 25 ∧ True := by
    obtain ⟨i, h, h1⟩ := Option.map_eq_some_iff.1 (show (Tryd.prog.info? 42).map (fun i => (i.zero, i.size)) = some (some (.agg (#[.int .i64 0, .int .i64 0, .int .i64 0, .slice none 0 0, .int .i64 0, .int .i64 0, .int .u64 0, .int .u64 0, .int .u64 0, .int .u64 0, .int .u64 0, .int .u64 0, .int .u64 0, .int .u64 0, .int .u64 0, .int .u64 0, .int .u64 0, .int .u64 0, .int .u64 0, .int .u64 0, .int .u64 0, .int .u64 0, .int .u64 0, .int .u64 0, .slice none 0 0] : Array Value)), 25) by kernel_rfl)
    exact ⟨i, h, congrArg Prod.fst h1, congrArg Prod.snd h1, trivial⟩
  obtain ⟨w1, hmk, -, hgrow1⟩ := run_make_own (P := Tryd.prog) w w.heap.size 46 42 i0 (.agg #[.int .i64 0, .int .i64 0, .int .i64 0, .slice none 0 0, .int .i64 0, .int .i64 0, .int .u64 0, .int .u64 0, .int .u64 0, .int .u64 0, .int .u64 0, .int .u64 0, .int .u64 0, .int .u64 0, .int .u64 0, .int .u64 0, .int .u64 0, .int .u64 0, .int .u64 0, .int .u64 0, .int .u64 0, .int .u64 0, .int .u64 0, .int .u64 0, .slice none 0 0]) 25 Tryd.underlying46 hi hz0 hz1 .i64 .i64 0 (by omega) (by unfold maxLen; omega) (Nat.le_refl _)
  have hg1 : Grew w w1 := (Below.refl _ w).grown hgrow1 (Nat.le_refl _) (fun j hj => by cases hj)
  rw [show ((0 : Nat) : Int) = 0 from rfl] at hmk
  clear hgrow1 hi hz0 hz1 hz2
  go_enter Tryd.func43, Tryd.ntmps43
  go_wp2_with fail
  clear hmk
  go_loopw [5, 13] (fun rv iv wr => rv = .slice (some ⟨w.heap.size, 0, none⟩) 0 0 ∧ iv = .int .i64 0 ∧ Grew w wr) (fun _ _ _ => 0)
  case atStart => exact ⟨rfl, rfl, hg1⟩
  case round =>
    obtain ⟨rfl, rfl, hg⟩ := hrel
    go_wp2_with fail
    go_ret
    exact ⟨⟨_, rfl⟩, hg⟩
set_option maxRecDepth 100000 in
set_option maxHeartbeats 2000000 in
theorem mgcp_bl (w : World) : Calls Tryd.prog 26 #[.agg (blZ (.slice none 0 0) (.slice none 0 0))] w fun e w' => (∃ b c, e = .returned (.agg (blZ (.slice (some ⟨b, 0, none⟩) 0 0) (.slice (some ⟨c, 0, none⟩) 0 0)))) ∧ Grew w w' := by
  have z1 := (Ag.new w 48 (blZ (.slice none 0 0) (.slice none 0 0))).grew (grew_alloc (grew_refl _) (.cells (#[.int .i64 0, .int .u64 0, .int .i64 0, .int .u64 0, .slice none 0 0, .int .i64 0, .int .i64 0, .slice none 0 0] : Array Value) 48))
  have z2 := Ag.new (w.alloc (.cells (blZ (.slice none 0 0) (.slice none 0 0)) 48)) 48 (#[.int .i64 0, .int .u64 0, .int .i64 0, .int .u64 0, .slice none 0 0, .int .i64 0, .int .i64 0, .slice none 0 0] : Array Value)
  rw [alloc_size] at z2
  have G := grew_alloc (grew_alloc (grew_refl w) (.cells (blZ (.slice none 0 0) (.slice none 0 0)) 48)) (.cells (#[.int .i64 0, .int .u64 0, .int .i64 0, .int .u64 0, .slice none 0 0, .int .i64 0, .int .i64 0, .slice none 0 0] : Array Value) 48)
  have hut := Tryd.underlying48
  have hu_qc := Tryd.underlying45
  have hm0 : World.rangeAt _ w.heap.size 2 (qcZ (.slice none 0 0) : Array Value).toList := z1.mid 2 3
  have HL0 : Hid ((Tryd.prog.info? 45).map (·.size) = some (qcZ (.slice none 0 0) : Array Value).toList.length) := Lib.hid mi_qc
  go_enter Tryd.func26, Tryd.ntmps26
  go_wp2_with (first | (with_reducible refine wpList_load_mid rfl 45 (.tmp 3) rfl w.heap.size 2 rfl (qcZ (.slice none 0 0) : Array Value).toList _ hm0 hu_qc rfl HL0.out ?_; simp only [Array.toArray_toList]))
  refine (mgcp_qc _).mono ?_
  rintro e w0 ⟨⟨b0, rfl⟩, g0⟩
  clear hm0 HL0
  replace z1 := z1.grew g0
  replace z2 := z2.grew g0
  replace G := grew_trans G g0
  clear g0
  have TH0 : Hid (w0.there w.heap.size 2 (qcZ (.slice (some ⟨b0, 0, none⟩) 0 0) : Array Value).size) := Lib.hid (z1.thereMid 2 3 (by show _ ≤ 8; omega))
  have SI0 : Hid ((Tryd.prog.info? 45).map (·.size) = some (qcZ (.slice (some ⟨b0, 0, none⟩) 0 0) : Array Value).size) := Lib.hid mi_qc
  have ON0 : Hid ((qcZ (.slice (some ⟨b0, 0, none⟩) 0 0) : Array Value).all (·.oneCell') = true) := Lib.hid (by simp [Value.oneCell'])
  have K := setCells_kp (qcZ (.slice (some ⟨b0, 0, none⟩) 0 0) : Array Value).toList w.heap.size 2 w0
  replace z2 := z2.kp K (by show ¬ w.heap.size + 1 = w.heap.size; omega)
  replace z1 : Ag _ w.heap.size (blZ (.slice (some ⟨b0, 0, none⟩) 0 0) (.slice none 0 0) : Array Value).toList := z1.setMid 2 (qcZ (.slice (some ⟨b0, 0, none⟩) 0 0) : Array Value).toList (by show 2 + 3 ≤ 8; omega)
  replace G := setCells_grew (o := 2) (b := w.heap.size) (qcZ (.slice (some ⟨b0, 0, none⟩) 0 0) : Array Value).toList G (Nat.le_refl _)
  obtain ⟨x0, hx0⟩ : ∃ v, w0.setCells w.heap.size 2 (qcZ (.slice (some ⟨b0, 0, none⟩) 0 0) : Array Value).toList = v := ⟨_, rfl⟩
  rw [hx0] at z1 z2 G
  have HX0 := Lib.hid hx0
  clear K hx0
  have hc1 := z1.cell 7 (.slice none 0 0) rfl
  simp only [Nat.zero_add] at hc1
  go_wp2_with (first | (with_reducible refine wpList_store_mid rfl 45 (.tmp 6) (.tmp 5) rfl w.heap.size 2 (qcZ (.slice (some ⟨b0, 0, none⟩) 0 0)) rfl rfl TH0.out SI0.out ON0.out ?_; rw [HX0.out]; clear HX0 TH0 SI0 ON0))
  refine (mgmap_re _).mono ?_
  rintro e w1 ⟨⟨b1, rfl⟩, g1⟩
  clear hc1
  replace z1 := z1.grew g1
  replace z2 := z2.grew g1
  replace G := grew_trans G g1
  clear g1
  have hc1 := z1.cell 7 (.slice none 0 0) rfl
  have fc1 := (z1.there 7 (by show 7 < 8; omega)).2
  simp only [Nat.zero_add] at hc1 fc1
  have K := setCells_kp [.slice (some ⟨b1, 0, none⟩) 0 0] w.heap.size 7 w1
  replace z2 := z2.kp K (by show ¬ w.heap.size + 1 = w.heap.size; omega)
  replace z1 : Ag _ w.heap.size (blZ (.slice (some ⟨b0, 0, none⟩) 0 0) (.slice (some ⟨b1, 0, none⟩) 0 0) : Array Value).toList := z1.setMid 7 [.slice (some ⟨b1, 0, none⟩) 0 0] (by show 7 + 1 ≤ 8; omega)
  replace G := setCells_grew (o := 7) (b := w.heap.size) [.slice (some ⟨b1, 0, none⟩) 0 0] G (Nat.le_refl _)
  obtain ⟨x1, hx1⟩ : ∃ v, w1.setCell ⟨w.heap.size, 7, none⟩ (.slice (some ⟨b1, 0, none⟩) 0 0) = v := ⟨_, rfl⟩
  rw [show w1.setCells w.heap.size 7 [.slice (some ⟨b1, 0, none⟩) 0 0] = x1 from hx1] at z1 z2 G
  clear K
  go_upto_region 3 with fail
  try rw [hx1]
  clear hx1 hc1 fc1
  have hmz := z1.cell
  have HLZ : Hid ((Tryd.prog.info? 48).map (·.size) = some (blZ (.slice (some ⟨b0, 0, none⟩) 0 0) (.slice (some ⟨b1, 0, none⟩) 0 0) : Array Value).toList.length) := Lib.hid mi_bl
  have SIZ : Hid ((Tryd.prog.info? 48).map (·.size) = some (blZ (.slice (some ⟨b0, 0, none⟩) 0 0) (.slice (some ⟨b1, 0, none⟩) 0 0) : Array Value).size) := Lib.hid mi_bl
  have ONZ : Hid ((blZ (.slice (some ⟨b0, 0, none⟩) 0 0) (.slice (some ⟨b1, 0, none⟩) 0 0) : Array Value).all (·.oneCell') = true) := Lib.hid (by simp [Value.oneCell'])
  have THZ : Hid (World.there _ (w.heap.size + 1) 0 (blZ (.slice (some ⟨b0, 0, none⟩) 0 0) (.slice (some ⟨b1, 0, none⟩) 0 0) : Array Value).size) := Lib.hid (z2.thereN 8 rfl)
  have z4 := Ag.set (vs := (blZ (.slice (some ⟨b0, 0, none⟩) 0 0) (.slice (some ⟨b1, 0, none⟩) 0 0) : Array Value).toList) z2 rfl
  have G4 := setCells_grew (o := 0) (b := w.heap.size + 1) (blZ (.slice (some ⟨b0, 0, none⟩) 0 0) (.slice (some ⟨b1, 0, none⟩) 0 0) : Array Value).toList G (by omega)
  clear z1 z2 G
  go_wp2_with (first | (with_reducible refine wpList_load_mid rfl 48 (.tmp 1) rfl w.heap.size 0 rfl (blZ (.slice (some ⟨b0, 0, none⟩) 0 0) (.slice (some ⟨b1, 0, none⟩) 0 0) : Array Value).toList _ hmz hut rfl HLZ.out ?_; simp only [Array.toArray_toList]) | (with_reducible refine wpList_store_mid rfl 48 (.tmp 2) (.tmp 11) rfl (w.heap.size + 1) 0 (blZ (.slice (some ⟨b0, 0, none⟩) 0 0) (.slice (some ⟨b1, 0, none⟩) 0 0)) rfl rfl THZ.out SIZ.out ONZ.out ?_))
  exact bodyPost_ret (results_mg Tryd.results26 _ _ (w.heap.size + 1) _ _ rfl z4 hut rfl mi_bl) rfl ⟨⟨b0, b1, rfl⟩, G4⟩
set_option maxRecDepth 100000 in
theorem mgmap_bl (w : World) : Calls Tryd.prog 29 #[.slice none 0 0, .func (.func 26) #[] #[]] w fun e w' => (∃ b, e = .returned (.slice (some ⟨b, 0, none⟩) 0 0)) ∧ Grew w w' := by
  obtain ⟨i0, hi, hz0, hz1, hz2⟩ : ∃ i, Tryd.prog.info? 48 = some i ∧ i.zero = some (.agg #[.int .i64 0, .int .u64 0, .int .i64 0, .int .u64 0, .slice none 0 0, .int .i64 0, .int .i64 0, .slice none 0 0]) ∧ i.size = 8 ∧ True := by
    obtain ⟨i, h, h1⟩ := Option.map_eq_some_iff.1 (show (Tryd.prog.info? 48).map (fun i => (i.zero, i.size)) = some (some (.agg (#[.int .i64 0, .int .u64 0, .int .i64 0, .int .u64 0, .slice none 0 0, .int .i64 0, .int .i64 0, .slice none 0 0] : Array Value)), 8) by kernel_rfl)
    exact ⟨i, h, congrArg Prod.fst h1, congrArg Prod.snd h1, trivial⟩
  obtain ⟨w1, hmk, -, hgrow1⟩ := run_make_own (P := Tryd.prog) w w.heap.size 53 48 i0 (.agg #[.int .i64 0, .int .u64 0, .int .i64 0, .int .u64 0, .slice none 0 0, .int .i64 0, .int .i64 0, .slice none 0 0]) 8 Tryd.underlying53 hi hz0 hz1 .i64 .i64 0 (by omega) (by unfold maxLen; omega) (Nat.le_refl _)
  have hg1 : Grew w w1 := (Below.refl _ w).grown hgrow1 (Nat.le_refl _) (fun j hj => by cases hj)
  rw [show ((0 : Nat) : Int) = 0 from rfl] at hmk
  clear hgrow1 hi hz0 hz1 hz2
  go_enter Tryd.func29, Tryd.ntmps29
  go_wp2_with fail
  clear hmk
  go_loopw [5, 13] (fun rv iv wr => rv = .slice (some ⟨w.heap.size, 0, none⟩) 0 0 ∧ iv = .int .i64 0 ∧ Grew w wr) (fun _ _ _ => 0)
  case atStart => exact ⟨rfl, rfl, hg1⟩
  case round =>
    obtain ⟨rfl, rfl, hg⟩ := hrel
    go_wp2_with fail
    go_ret
    exact ⟨⟨_, rfl⟩, hg⟩
end Go.Proofs.YtfnkcahnkccekaaDoor
