/- Messages without content: alike (mkmgc.py). -/
import Derived.Test.YtfnkcahnkccekaaDoorMgB
namespace Go.Proofs.YtfnkcahnkccekaaDoor
open Go.RowKit
set_option linter.unusedVariables false
set_option linter.unusedSimpArgs false
abbrev arZ : Array Value := #[.int .u64 0, .int .u64 0, .int .u64 0, .int .u64 0, .int .u64 0, .int .u64 0, .int .u64 0, .int .u64 0, .int .u64 0, .int .u64 0, .int .u64 0, .int .u64 0, .int .u64 0, .int .u64 0, .int .u64 0, .int .u64 0, .int .u64 0, .int .u64 0]
theorem mg_arr (W : World) : (Op.equalIn 10000 29 (.agg arZ) (.agg arZ)).run Tryd.prog W = .ok true W := by kernel_rfl
theorem Ag.midOf {w : World} {b : Nat} {cs vs : List Value} (h : Ag w b cs) (o n : Nat) (e : (cs.drop o).take n = vs) : w.rangeAt b o vs := e ▸ h.mid o n
theorem mi_ar : (Tryd.prog.info? 29).map (·.size) = some 18 := by kernel_rfl
set_option maxRecDepth 100000 in
theorem mgeq_nil  (w : World) : Calls Tryd.prog 45 #[.slice none 0 0, .slice none 0 0] w fun e w' => e = .returned (.bool true) ∧ Grew w w' := by
  go_enter Tryd.func45, Tryd.ntmps45
  go_wp2_with fail
  go_loopw [13] (fun iv wr => iv = .int .i64 0 ∧ Grew w wr) (fun _ _ => 0)
  case atStart => exact ⟨rfl, grew_refl _⟩
  case round =>
    obtain ⟨rfl, hg⟩ := hrel
    go_wp2_with fail
    go_ret
    exact ⟨rfl, hg⟩
set_option maxRecDepth 100000 in
set_option maxHeartbeats 2000000 in
theorem mgsame_sg  (w : World) : Calls Tryd.prog 30 #[.agg (sgZ), .agg (sgZ)] w fun e w' => e = .returned (.bool true) ∧ Grew w w' := by
  obtain ⟨ga, hga⟩ : ∃ g : Array Value, (sgZ) = g := ⟨_, rfl⟩
  obtain ⟨gb, hgb⟩ : ∃ g : Array Value, (sgZ) = g := ⟨_, rfl⟩
  have HA : Hid (ga.toList = (sgZ : Array Value).toList) := Lib.hid (by rw [← hga])
  have HB : Hid (gb.toList = (sgZ : Array Value).toList) := Lib.hid (by rw [← hgb])
  have hab : ga = gb := hga.symm.trans hgb
  rw [hga]
  rw (occs := .pos [2]) [hab]
  clear hab
  clear hga hgb
  have zA := (Ag.new w 32 ga).grew (grew_alloc (grew_refl _) (.cells gb 32))
  have zB := Ag.new (w.alloc (.cells ga 32)) 32 gb
  rw [alloc_size] at zB
  have G := grew_alloc (grew_alloc (grew_refl w) (.cells ga 32)) (.cells gb 32)
  obtain ⟨ar, har⟩ : ∃ g : Array Value, (arZ) = g := ⟨_, rfl⟩
  have HAR := Lib.hid har
  have hu_ar := Tryd.underlying29
  have HLR : Hid ((Tryd.prog.info? 29).map (·.size) = some ar.toList.length) := Lib.hid (by rw [← har]; exact mi_ar)
  have ER := mg_arr
  rw [har] at ER
  clear har
  have a0_0 := zA.cell 0 (.int .i64 0) (by rw [HA.out]; rfl)
  have b0_0 := zB.cell 0 (.int .i64 0) (by rw [HB.out]; rfl)
  simp only [Nat.zero_add] at a0_0 b0_0
  have a0_1 := zA.cell 1 (.int .i64 0) (by rw [HA.out]; rfl)
  have b0_1 := zB.cell 1 (.int .i64 0) (by rw [HB.out]; rfl)
  simp only [Nat.zero_add] at a0_1 b0_1
  have a0_2 := zA.midOf (vs := ar.toList) 2 18 (by rw [HA.out, ← HAR.out]; rfl)
  have b0_2 := zB.midOf (vs := ar.toList) 2 18 (by rw [HB.out, ← HAR.out]; rfl)
  have a0_3 := zA.cell 20 (.slice none 0 0) (by rw [HA.out]; rfl)
  have b0_3 := zB.cell 20 (.slice none 0 0) (by rw [HB.out]; rfl)
  simp only [Nat.zero_add] at a0_3 b0_3
  go_enter Tryd.func30, Tryd.ntmps30
  go_wp2_with (first | (refine mgload_want (by rfl) 29 (.tmp 18) rfl w.heap.size 2 rfl ar.toList _ a0_2 hu_ar rfl HLR.out ?_; simp only [Array.toArray_toList]) | (refine mgload_want (by rfl) 29 (.tmp 20) rfl (w.heap.size + 1) 2 rfl ar.toList _ b0_2 hu_ar rfl HLR.out ?_; simp only [Array.toArray_toList]))
  refine (mgeq_nil _).mono ?_
  rintro e w0 ⟨rfl, g0⟩
  clear a0_0 b0_0 a0_1 b0_1 a0_2 b0_2 a0_3 b0_3
  replace zA := zA.grew g0
  replace zB := zB.grew g0
  replace G := grew_trans G g0
  go_wp2_with fail
  go_ret
  exact ⟨rfl, G⟩
set_option maxRecDepth 100000 in
set_option maxHeartbeats 2000000 in
theorem mgsame_st  (w : World) : Calls Tryd.prog 12 #[.agg (stZ), .agg (stZ)] w fun e w' => e = .returned (.bool true) ∧ Grew w w' := by
  obtain ⟨ga, hga⟩ : ∃ g : Array Value, (stZ) = g := ⟨_, rfl⟩
  obtain ⟨gb, hgb⟩ : ∃ g : Array Value, (stZ) = g := ⟨_, rfl⟩
  have HA : Hid (ga.toList = (stZ : Array Value).toList) := Lib.hid (by rw [← hga])
  have HB : Hid (gb.toList = (stZ : Array Value).toList) := Lib.hid (by rw [← hgb])
  have hab : ga = gb := hga.symm.trans hgb
  rw [hga]
  rw (occs := .pos [2]) [hab]
  clear hab
  clear hga hgb
  have zA := (Ag.new w 34 ga).grew (grew_alloc (grew_refl _) (.cells gb 34))
  have zB := Ag.new (w.alloc (.cells ga 34)) 34 gb
  rw [alloc_size] at zB
  have G := grew_alloc (grew_alloc (grew_refl w) (.cells ga 34)) (.cells gb 34)
  have hu_sg := Tryd.underlying32
  obtain ⟨sa0, hsa0⟩ : ∃ g : Array Value, (sgZ) = g := ⟨_, rfl⟩
  obtain ⟨sb0, hsb0⟩ : ∃ g : Array Value, (sgZ) = g := ⟨_, rfl⟩
  have SA0 := Lib.hid hsa0
  have SB0 := Lib.hid hsb0
  have CON0 : Hid (∀ W, Calls Tryd.prog 30 #[.agg sa0, .agg sb0] W fun e w' => e = .returned (.bool true) ∧ Grew W w') := Lib.hid (by intro W; rw [← hsa0, ← hsb0]; exact mgsame_sg W)
  have LA0 : Hid ((Tryd.prog.info? 32).map (·.size) = some sa0.toList.length) := Lib.hid (by rw [← hsa0]; exact mi_sg)
  have LB0 : Hid ((Tryd.prog.info? 32).map (·.size) = some sb0.toList.length) := Lib.hid (by rw [← hsb0]; exact mi_sg)
  clear hsa0 hsb0
  have a0_0 := zA.cell 0 (.int .u64 0) (by rw [HA.out]; rfl)
  have b0_0 := zB.cell 0 (.int .u64 0) (by rw [HB.out]; rfl)
  simp only [Nat.zero_add] at a0_0 b0_0
  have a0_1 := zA.cell 1 (.int .i64 0) (by rw [HA.out]; rfl)
  have b0_1 := zB.cell 1 (.int .i64 0) (by rw [HB.out]; rfl)
  simp only [Nat.zero_add] at a0_1 b0_1
  have a0_2 := zA.cell 2 (.int .i64 0) (by rw [HA.out]; rfl)
  have b0_2 := zB.cell 2 (.int .i64 0) (by rw [HB.out]; rfl)
  simp only [Nat.zero_add] at a0_2 b0_2
  have a0_3 := zA.midOf (vs := sa0.toList) 3 21 (by rw [HA.out, ← SA0.out]; rfl)
  have b0_3 := zB.midOf (vs := sb0.toList) 3 21 (by rw [HB.out, ← SB0.out]; rfl)
  go_enter Tryd.func12, Tryd.ntmps12
  go_wp2_with (first | (refine mgload_want (by rfl) 32 (.tmp 25) rfl w.heap.size 3 rfl sa0.toList _ a0_3 hu_sg rfl LA0.out ?_; simp only [Array.toArray_toList]) | (refine mgload_want (by rfl) 32 (.tmp 27) rfl (w.heap.size + 1) 3 rfl sb0.toList _ b0_3 hu_sg rfl LB0.out ?_; simp only [Array.toArray_toList]))
  refine (CON0.out _).mono ?_
  rintro e w0 ⟨rfl, g0⟩
  clear a0_0 b0_0 a0_1 b0_1 a0_2 b0_2 a0_3 b0_3
  replace zA := zA.grew g0
  replace zB := zB.grew g0
  replace G := grew_trans G g0
  go_wp2_with fail
  go_ret
  exact ⟨rfl, G⟩
set_option maxRecDepth 100000 in
theorem mgeqf_st (A B : Option Addr) (c d : Nat) (w : World) : Calls Tryd.prog 31 #[.slice A 0 c, .slice B 0 d, .func (.func 12) #[] #[]] w fun e w' => e = .returned (.bool true) ∧ Grew w w' := by
  go_enter Tryd.func31, Tryd.ntmps31
  go_wp2_with fail
  go_loopw [17] (fun iv wr => iv = .int .i64 0 ∧ Grew w wr) (fun _ _ => 0)
  case atStart => exact ⟨rfl, grew_refl _⟩
  case round =>
    obtain ⟨rfl, hg⟩ := hrel
    go_wp2_with fail
    go_ret
    exact ⟨rfl, hg⟩
theorem mgeq_step {P : Program} {W : World} {d : Nat} {xs ys : Array Value} {f : Field} {fs : List Field} {a : Int} {k : IntKind} (hn : (f.name ≠ "_") = True) (ha : (part f.type xs f.offset).run P W = .ok (.int k a) W) (hb : (part f.type ys f.offset).run P W = .ok (.int k a) W) (hu : P.underlying f.type = some (.int k)) :
    (Op.eqFields (d + 1) xs ys (f :: fs)).run P W = (Op.eqFields (d + 1) xs ys fs).run P W := by
  rw [Op.eqFields, if_pos (of_eq_true hn)]
  simp only [Sem.run_bind, ha, hb, Result.andThen_ok, run_equalIn_int W d f.type k k a a hu]
  simp
abbrev cm5 (a b c d e : Int) : Array Value := #[.int .i64 a, .int .i64 b, .int .i64 c, .int .i64 d, .int .i64 e]
set_option maxRecDepth 100000 in
theorem mg_cm (a b c d e : Int) (W : World) : (Op.equalIn 10000 24 (.agg (cm5 a b c d e)) (.agg (cm5 a b c d e))).run Tryd.prog W = .ok true W := by
  rw [run_equalIn_struct W 9999 24 _ _ (by kernel_rfl) (by kernel_rfl)]
  simp only [Program.fieldsOf, Tryd.underlying24]
  rw [mgeq_step (k := .i64) (a := a) (by simp) (by kernel_rfl) (by kernel_rfl) (by kernel_rfl), mgeq_step (k := .i64) (a := b) (by simp) (by kernel_rfl) (by kernel_rfl) (by kernel_rfl), mgeq_step (k := .i64) (a := c) (by simp) (by kernel_rfl) (by kernel_rfl) (by kernel_rfl), mgeq_step (k := .i64) (a := d) (by simp) (by kernel_rfl) (by kernel_rfl) (by kernel_rfl), mgeq_step (k := .i64) (a := e) (by simp) (by kernel_rfl) (by kernel_rfl) (by kernel_rfl)]
  simp only [Op.eqFields, Sem.run_pure]
theorem mi_cm : (Tryd.prog.info? 24).map (·.size) = some 5 := by kernel_rfl
set_option maxRecDepth 100000 in
set_option maxHeartbeats 2000000 in
theorem mgsame_ct (A B : Option Addr) (c d : Nat) (w : World) : Calls Tryd.prog 13 #[.agg (ctZ (.slice A 0 c)), .agg (ctZ (.slice B 0 d))] w fun e w' => e = .returned (.bool true) ∧ Grew w w' := by
  obtain ⟨ga, hga⟩ : ∃ g : Array Value, (ctZ (.slice A 0 c)) = g := ⟨_, rfl⟩
  obtain ⟨gb, hgb⟩ : ∃ g : Array Value, (ctZ (.slice B 0 d)) = g := ⟨_, rfl⟩
  have HA : Hid (ga.toList = (ctZ (.slice A 0 c) : Array Value).toList) := Lib.hid (by rw [← hga])
  have HB : Hid (gb.toList = (ctZ (.slice B 0 d) : Array Value).toList) := Lib.hid (by rw [← hgb])
  rw [hga, hgb]
  clear hga hgb
  have zA := (Ag.new w 37 ga).grew (grew_alloc (grew_refl _) (.cells gb 37))
  have zB := Ag.new (w.alloc (.cells ga 37)) 37 gb
  rw [alloc_size] at zB
  have G := grew_alloc (grew_alloc (grew_refl w) (.cells ga 37)) (.cells gb 37)
  obtain ⟨ar, har⟩ : ∃ g : Array Value, (cm5 0 0 0 0 0) = g := ⟨_, rfl⟩
  have HAR := Lib.hid har
  have hu_ar := Tryd.underlying24
  have HLR : Hid ((Tryd.prog.info? 24).map (·.size) = some ar.toList.length) := Lib.hid (by rw [← har]; exact mi_cm)
  have ER := mg_cm 0 0 0 0 0
  rw [har] at ER
  clear har
  have a0_0 := zA.midOf (vs := ar.toList) 0 5 (by rw [HA.out, ← HAR.out]; rfl)
  have b0_0 := zB.midOf (vs := ar.toList) 0 5 (by rw [HB.out, ← HAR.out]; rfl)
  have a0_1 := zA.cell 5 (.slice A 0 c) (by rw [HA.out]; rfl)
  have b0_1 := zB.cell 5 (.slice B 0 d) (by rw [HB.out]; rfl)
  simp only [Nat.zero_add] at a0_1 b0_1
  go_enter Tryd.func13, Tryd.ntmps13
  go_wp2_with (first | (refine mgload_want (by rfl) 24 (.tmp 5) rfl w.heap.size 0 rfl ar.toList _ a0_0 hu_ar rfl HLR.out ?_; simp only [Array.toArray_toList]) | (refine mgload_want (by rfl) 24 (.tmp 7) rfl (w.heap.size + 1) 0 rfl ar.toList _ b0_0 hu_ar rfl HLR.out ?_; simp only [Array.toArray_toList]))
  refine (mgeqf_st A B c d _).mono ?_
  rintro e w0 ⟨rfl, g0⟩
  clear a0_0 b0_0 a0_1 b0_1
  replace zA := zA.grew g0
  replace zB := zB.grew g0
  replace G := grew_trans G g0
  go_wp2_with fail
  go_ret
  exact ⟨rfl, G⟩
set_option maxRecDepth 100000 in
theorem mgeqf_ct (A B : Option Addr) (c d : Nat) (w : World) : Calls Tryd.prog 32 #[.slice A 0 c, .slice B 0 d, .func (.func 13) #[] #[]] w fun e w' => e = .returned (.bool true) ∧ Grew w w' := by
  go_enter Tryd.func32, Tryd.ntmps32
  go_wp2_with fail
  go_loopw [17] (fun iv wr => iv = .int .i64 0 ∧ Grew w wr) (fun _ _ => 0)
  case atStart => exact ⟨rfl, grew_refl _⟩
  case round =>
    obtain ⟨rfl, hg⟩ := hrel
    go_wp2_with fail
    go_ret
    exact ⟨rfl, hg⟩
set_option maxRecDepth 100000 in
set_option maxHeartbeats 2000000 in
theorem mgsame_ak  (w : World) : Calls Tryd.prog 14 #[.agg (akZ), .agg (akZ)] w fun e w' => e = .returned (.bool true) ∧ Grew w w' := by
  obtain ⟨ga, hga⟩ : ∃ g : Array Value, (akZ) = g := ⟨_, rfl⟩
  obtain ⟨gb, hgb⟩ : ∃ g : Array Value, (akZ) = g := ⟨_, rfl⟩
  have HA : Hid (ga.toList = (akZ : Array Value).toList) := Lib.hid (by rw [← hga])
  have HB : Hid (gb.toList = (akZ : Array Value).toList) := Lib.hid (by rw [← hgb])
  have hab : ga = gb := hga.symm.trans hgb
  rw [hga]
  rw (occs := .pos [2]) [hab]
  clear hab
  clear hga hgb
  have zA := (Ag.new w 39 ga).grew (grew_alloc (grew_refl _) (.cells gb 39))
  have zB := Ag.new (w.alloc (.cells ga 39)) 39 gb
  rw [alloc_size] at zB
  have G := grew_alloc (grew_alloc (grew_refl w) (.cells ga 39)) (.cells gb 39)
  have hu_sg := Tryd.underlying32
  obtain ⟨sa0, hsa0⟩ : ∃ g : Array Value, (sgZ) = g := ⟨_, rfl⟩
  obtain ⟨sb0, hsb0⟩ : ∃ g : Array Value, (sgZ) = g := ⟨_, rfl⟩
  have SA0 := Lib.hid hsa0
  have SB0 := Lib.hid hsb0
  have CON0 : Hid (∀ W, Calls Tryd.prog 30 #[.agg sa0, .agg sb0] W fun e w' => e = .returned (.bool true) ∧ Grew W w') := Lib.hid (by intro W; rw [← hsa0, ← hsb0]; exact mgsame_sg W)
  have LA0 : Hid ((Tryd.prog.info? 32).map (·.size) = some sa0.toList.length) := Lib.hid (by rw [← hsa0]; exact mi_sg)
  have LB0 : Hid ((Tryd.prog.info? 32).map (·.size) = some sb0.toList.length) := Lib.hid (by rw [← hsb0]; exact mi_sg)
  clear hsa0 hsb0
  have a0_0 := zA.cell 0 (.int .u64 0) (by rw [HA.out]; rfl)
  have b0_0 := zB.cell 0 (.int .u64 0) (by rw [HB.out]; rfl)
  simp only [Nat.zero_add] at a0_0 b0_0
  have a0_1 := zA.cell 1 (.int .i64 0) (by rw [HA.out]; rfl)
  have b0_1 := zB.cell 1 (.int .i64 0) (by rw [HB.out]; rfl)
  simp only [Nat.zero_add] at a0_1 b0_1
  have a0_2 := zA.midOf (vs := sa0.toList) 2 21 (by rw [HA.out, ← SA0.out]; rfl)
  have b0_2 := zB.midOf (vs := sb0.toList) 2 21 (by rw [HB.out, ← SB0.out]; rfl)
  go_enter Tryd.func14, Tryd.ntmps14
  go_wp2_with (first | (refine mgload_want (by rfl) 32 (.tmp 18) rfl w.heap.size 2 rfl sa0.toList _ a0_2 hu_sg rfl LA0.out ?_; simp only [Array.toArray_toList]) | (refine mgload_want (by rfl) 32 (.tmp 20) rfl (w.heap.size + 1) 2 rfl sb0.toList _ b0_2 hu_sg rfl LB0.out ?_; simp only [Array.toArray_toList]))
  refine (CON0.out _).mono ?_
  rintro e w0 ⟨rfl, g0⟩
  clear a0_0 b0_0 a0_1 b0_1 a0_2 b0_2
  replace zA := zA.grew g0
  replace zB := zB.grew g0
  replace G := grew_trans G g0
  go_wp2_with fail
  go_ret
  exact ⟨rfl, G⟩
set_option maxRecDepth 100000 in
set_option maxHeartbeats 2000000 in
theorem mgsame_re (A B : Option Addr) (c d : Nat) (w : World) : Calls Tryd.prog 15 #[.agg (reZ (.slice A 0 c)), .agg (reZ (.slice B 0 d))] w fun e w' => e = .returned (.bool true) ∧ Grew w w' := by
  obtain ⟨ga, hga⟩ : ∃ g : Array Value, (reZ (.slice A 0 c)) = g := ⟨_, rfl⟩
  obtain ⟨gb, hgb⟩ : ∃ g : Array Value, (reZ (.slice B 0 d)) = g := ⟨_, rfl⟩
  have HA : Hid (ga.toList = (reZ (.slice A 0 c) : Array Value).toList) := Lib.hid (by rw [← hga])
  have HB : Hid (gb.toList = (reZ (.slice B 0 d) : Array Value).toList) := Lib.hid (by rw [← hgb])
  rw [hga, hgb]
  clear hga hgb
  have zA := (Ag.new w 42 ga).grew (grew_alloc (grew_refl _) (.cells gb 42))
  have zB := Ag.new (w.alloc (.cells ga 42)) 42 gb
  rw [alloc_size] at zB
  have G := grew_alloc (grew_alloc (grew_refl w) (.cells ga 42)) (.cells gb 42)
  have hu_sg := Tryd.underlying32
  obtain ⟨sa0, hsa0⟩ : ∃ g : Array Value, (sgZ) = g := ⟨_, rfl⟩
  obtain ⟨sb0, hsb0⟩ : ∃ g : Array Value, (sgZ) = g := ⟨_, rfl⟩
  have SA0 := Lib.hid hsa0
  have SB0 := Lib.hid hsb0
  have CON0 : Hid (∀ W, Calls Tryd.prog 30 #[.agg sa0, .agg sb0] W fun e w' => e = .returned (.bool true) ∧ Grew W w') := Lib.hid (by intro W; rw [← hsa0, ← hsb0]; exact mgsame_sg W)
  have LA0 : Hid ((Tryd.prog.info? 32).map (·.size) = some sa0.toList.length) := Lib.hid (by rw [← hsa0]; exact mi_sg)
  have LB0 : Hid ((Tryd.prog.info? 32).map (·.size) = some sb0.toList.length) := Lib.hid (by rw [← hsb0]; exact mi_sg)
  clear hsa0 hsb0
  have a0_0 := zA.cell 0 (.int .i64 0) (by rw [HA.out]; rfl)
  have b0_0 := zB.cell 0 (.int .i64 0) (by rw [HB.out]; rfl)
  simp only [Nat.zero_add] at a0_0 b0_0
  have a0_1 := zA.cell 1 (.int .i64 0) (by rw [HA.out]; rfl)
  have b0_1 := zB.cell 1 (.int .i64 0) (by rw [HB.out]; rfl)
  simp only [Nat.zero_add] at a0_1 b0_1
  have a0_2 := zA.cell 2 (.int .i64 0) (by rw [HA.out]; rfl)
  have b0_2 := zB.cell 2 (.int .i64 0) (by rw [HB.out]; rfl)
  simp only [Nat.zero_add] at a0_2 b0_2
  have a0_3 := zA.midOf (vs := sa0.toList) 4 21 (by rw [HA.out, ← SA0.out]; rfl)
  have b0_3 := zB.midOf (vs := sb0.toList) 4 21 (by rw [HB.out, ← SB0.out]; rfl)
  go_enter Tryd.func15, Tryd.ntmps15
  go_wp2_with (first | (refine mgload_want (by rfl) 32 (.tmp 25) rfl w.heap.size 4 rfl sa0.toList _ a0_3 hu_sg rfl LA0.out ?_; simp only [Array.toArray_toList]) | (refine mgload_want (by rfl) 32 (.tmp 27) rfl (w.heap.size + 1) 4 rfl sb0.toList _ b0_3 hu_sg rfl LB0.out ?_; simp only [Array.toArray_toList]))
  refine (CON0.out _).mono ?_
  rintro e w0 ⟨rfl, g0⟩
  clear a0_0 b0_0 a0_1 b0_1 a0_2 b0_2 a0_3 b0_3
  replace zA := zA.grew g0
  replace zB := zB.grew g0
  replace G := grew_trans G g0
  have a1_0 := zA.cell 3 (.slice A 0 c) (by rw [HA.out]; rfl)
  have b1_0 := zB.cell 3 (.slice B 0 d) (by rw [HB.out]; rfl)
  simp only [Nat.zero_add] at a1_0 b1_0
  go_wp2_with fail
  refine (mgeqf_ct A B c d _).mono ?_
  rintro e w1 ⟨rfl, g1⟩
  clear a1_0 b1_0
  replace zA := zA.grew g1
  replace zB := zB.grew g1
  replace G := grew_trans G g1
  go_wp2_with fail
  go_ret
  exact ⟨rfl, G⟩
set_option maxRecDepth 100000 in
set_option maxHeartbeats 2000000 in
theorem mgsame_vo  (w : World) : Calls Tryd.prog 17 #[.agg (voZ), .agg (voZ)] w fun e w' => e = .returned (.bool true) ∧ Grew w w' := by
  obtain ⟨ga, hga⟩ : ∃ g : Array Value, (voZ) = g := ⟨_, rfl⟩
  obtain ⟨gb, hgb⟩ : ∃ g : Array Value, (voZ) = g := ⟨_, rfl⟩
  have HA : Hid (ga.toList = (voZ : Array Value).toList) := Lib.hid (by rw [← hga])
  have HB : Hid (gb.toList = (voZ : Array Value).toList) := Lib.hid (by rw [← hgb])
  have hab : ga = gb := hga.symm.trans hgb
  rw [hga]
  rw (occs := .pos [2]) [hab]
  clear hab
  clear hga hgb
  have zA := (Ag.new w 50 ga).grew (grew_alloc (grew_refl _) (.cells gb 50))
  have zB := Ag.new (w.alloc (.cells ga 50)) 50 gb
  rw [alloc_size] at zB
  have G := grew_alloc (grew_alloc (grew_refl w) (.cells ga 50)) (.cells gb 50)
  have hu_sg := Tryd.underlying32
  obtain ⟨sa0, hsa0⟩ : ∃ g : Array Value, (sgZ) = g := ⟨_, rfl⟩
  obtain ⟨sb0, hsb0⟩ : ∃ g : Array Value, (sgZ) = g := ⟨_, rfl⟩
  have SA0 := Lib.hid hsa0
  have SB0 := Lib.hid hsb0
  have CON0 : Hid (∀ W, Calls Tryd.prog 30 #[.agg sa0, .agg sb0] W fun e w' => e = .returned (.bool true) ∧ Grew W w') := Lib.hid (by intro W; rw [← hsa0, ← hsb0]; exact mgsame_sg W)
  have LA0 : Hid ((Tryd.prog.info? 32).map (·.size) = some sa0.toList.length) := Lib.hid (by rw [← hsa0]; exact mi_sg)
  have LB0 : Hid ((Tryd.prog.info? 32).map (·.size) = some sb0.toList.length) := Lib.hid (by rw [← hsb0]; exact mi_sg)
  clear hsa0 hsb0
  have a0_0 := zA.cell 0 (.int .i64 0) (by rw [HA.out]; rfl)
  have b0_0 := zB.cell 0 (.int .i64 0) (by rw [HB.out]; rfl)
  simp only [Nat.zero_add] at a0_0 b0_0
  have a0_1 := zA.cell 1 (.int .u64 0) (by rw [HA.out]; rfl)
  have b0_1 := zB.cell 1 (.int .u64 0) (by rw [HB.out]; rfl)
  simp only [Nat.zero_add] at a0_1 b0_1
  have a0_2 := zA.cell 2 (.int .i64 0) (by rw [HA.out]; rfl)
  have b0_2 := zB.cell 2 (.int .i64 0) (by rw [HB.out]; rfl)
  simp only [Nat.zero_add] at a0_2 b0_2
  have a0_3 := zA.midOf (vs := sa0.toList) 3 21 (by rw [HA.out, ← SA0.out]; rfl)
  have b0_3 := zB.midOf (vs := sb0.toList) 3 21 (by rw [HB.out, ← SB0.out]; rfl)
  go_enter Tryd.func17, Tryd.ntmps17
  go_wp2_with (first | (refine mgload_want (by rfl) 32 (.tmp 25) rfl w.heap.size 3 rfl sa0.toList _ a0_3 hu_sg rfl LA0.out ?_; simp only [Array.toArray_toList]) | (refine mgload_want (by rfl) 32 (.tmp 27) rfl (w.heap.size + 1) 3 rfl sb0.toList _ b0_3 hu_sg rfl LB0.out ?_; simp only [Array.toArray_toList]))
  refine (CON0.out _).mono ?_
  rintro e w0 ⟨rfl, g0⟩
  clear a0_0 b0_0 a0_1 b0_1 a0_2 b0_2 a0_3 b0_3
  replace zA := zA.grew g0
  replace zB := zB.grew g0
  replace G := grew_trans G g0
  go_wp2_with fail
  go_ret
  exact ⟨rfl, G⟩
set_option maxRecDepth 100000 in
theorem mgsml_vo (A B : Option Addr) (c d : Nat) (w : World) : Calls Tryd.prog 46 #[.slice A 0 c, .slice B 0 d, .func (.func 17) #[] #[]] w fun e w' => e = .returned (.bool true) ∧ Grew w w' := by
  go_enter Tryd.func46, Tryd.ntmps46
  go_wp2_with fail
  go_loopw [15] (fun iv wr => iv = .int .i64 0 ∧ Grew w wr) (fun _ _ => 0)
  case atStart => exact ⟨rfl, grew_refl _⟩
  case round =>
    obtain ⟨rfl, hg⟩ := hrel
    go_wp2_with fail
    go_ret
    exact ⟨rfl, hg⟩
set_option maxRecDepth 100000 in
theorem mgsml_re (A B : Option Addr) (c d : Nat) (w : World) : Calls Tryd.prog 34 #[.slice A 0 c, .slice B 0 d, .func (.func 15) #[] #[]] w fun e w' => e = .returned (.bool true) ∧ Grew w w' := by
  go_enter Tryd.func34, Tryd.ntmps34
  go_wp2_with fail
  go_loopw [15] (fun iv wr => iv = .int .i64 0 ∧ Grew w wr) (fun _ _ => 0)
  case atStart => exact ⟨rfl, grew_refl _⟩
  case round =>
    obtain ⟨rfl, hg⟩ := hrel
    go_wp2_with fail
    go_ret
    exact ⟨rfl, hg⟩
set_option maxRecDepth 100000 in
set_option maxHeartbeats 2000000 in
theorem mgsame_qc (A B : Option Addr) (c d : Nat) (w : World) : Calls Tryd.prog 33 #[.agg (qcZ (.slice A 0 c)), .agg (qcZ (.slice B 0 d))] w fun e w' => e = .returned (.bool true) ∧ Grew w w' := by
  obtain ⟨ga, hga⟩ : ∃ g : Array Value, (qcZ (.slice A 0 c)) = g := ⟨_, rfl⟩
  obtain ⟨gb, hgb⟩ : ∃ g : Array Value, (qcZ (.slice B 0 d)) = g := ⟨_, rfl⟩
  have HA : Hid (ga.toList = (qcZ (.slice A 0 c) : Array Value).toList) := Lib.hid (by rw [← hga])
  have HB : Hid (gb.toList = (qcZ (.slice B 0 d) : Array Value).toList) := Lib.hid (by rw [← hgb])
  rw [hga, hgb]
  clear hga hgb
  have zA := (Ag.new w 45 ga).grew (grew_alloc (grew_refl _) (.cells gb 45))
  have zB := Ag.new (w.alloc (.cells ga 45)) 45 gb
  rw [alloc_size] at zB
  have G := grew_alloc (grew_alloc (grew_refl w) (.cells ga 45)) (.cells gb 45)
  have a0_0 := zA.cell 0 (.int .i64 0) (by rw [HA.out]; rfl)
  have b0_0 := zB.cell 0 (.int .i64 0) (by rw [HB.out]; rfl)
  simp only [Nat.zero_add] at a0_0 b0_0
  have a0_1 := zA.cell 1 (.int .u64 0) (by rw [HA.out]; rfl)
  have b0_1 := zB.cell 1 (.int .u64 0) (by rw [HB.out]; rfl)
  simp only [Nat.zero_add] at a0_1 b0_1
  have a0_2 := zA.cell 2 (.slice A 0 c) (by rw [HA.out]; rfl)
  have b0_2 := zB.cell 2 (.slice B 0 d) (by rw [HB.out]; rfl)
  simp only [Nat.zero_add] at a0_2 b0_2
  go_enter Tryd.func33, Tryd.ntmps33
  go_wp2_with fail
  refine (mgsml_vo A B c d _).mono ?_
  rintro e w0 ⟨rfl, g0⟩
  clear a0_0 b0_0 a0_1 b0_1 a0_2 b0_2
  replace zA := zA.grew g0
  replace zB := zB.grew g0
  replace G := grew_trans G g0
  go_wp2_with fail
  go_ret
  exact ⟨rfl, G⟩
set_option maxRecDepth 100000 in
set_option maxHeartbeats 2000000 in
theorem mgsame_bl (A B A' B' : Option Addr) (c d c' d' : Nat) (w : World) : Calls Tryd.prog 16 #[.agg (blZ (.slice A 0 c) (.slice A' 0 c')), .agg (blZ (.slice B 0 d) (.slice B' 0 d'))] w fun e w' => e = .returned (.bool true) ∧ Grew w w' := by
  obtain ⟨ga, hga⟩ : ∃ g : Array Value, (blZ (.slice A 0 c) (.slice A' 0 c')) = g := ⟨_, rfl⟩
  obtain ⟨gb, hgb⟩ : ∃ g : Array Value, (blZ (.slice B 0 d) (.slice B' 0 d')) = g := ⟨_, rfl⟩
  have HA : Hid (ga.toList = (blZ (.slice A 0 c) (.slice A' 0 c') : Array Value).toList) := Lib.hid (by rw [← hga])
  have HB : Hid (gb.toList = (blZ (.slice B 0 d) (.slice B' 0 d') : Array Value).toList) := Lib.hid (by rw [← hgb])
  rw [hga, hgb]
  clear hga hgb
  have zA := (Ag.new w 48 ga).grew (grew_alloc (grew_refl _) (.cells gb 48))
  have zB := Ag.new (w.alloc (.cells ga 48)) 48 gb
  rw [alloc_size] at zB
  have G := grew_alloc (grew_alloc (grew_refl w) (.cells ga 48)) (.cells gb 48)
  have hu_qc := Tryd.underlying45
  obtain ⟨sa0, hsa0⟩ : ∃ g : Array Value, (qcZ (.slice A 0 c)) = g := ⟨_, rfl⟩
  obtain ⟨sb0, hsb0⟩ : ∃ g : Array Value, (qcZ (.slice B 0 d)) = g := ⟨_, rfl⟩
  have SA0 := Lib.hid hsa0
  have SB0 := Lib.hid hsb0
  have CON0 : Hid (∀ W, Calls Tryd.prog 33 #[.agg sa0, .agg sb0] W fun e w' => e = .returned (.bool true) ∧ Grew W w') := Lib.hid (by intro W; rw [← hsa0, ← hsb0]; exact mgsame_qc A B c d W)
  have LA0 : Hid ((Tryd.prog.info? 45).map (·.size) = some sa0.toList.length) := Lib.hid (by rw [← hsa0]; exact mi_qc)
  have LB0 : Hid ((Tryd.prog.info? 45).map (·.size) = some sb0.toList.length) := Lib.hid (by rw [← hsb0]; exact mi_qc)
  clear hsa0 hsb0
  have a0_0 := zA.cell 0 (.int .i64 0) (by rw [HA.out]; rfl)
  have b0_0 := zB.cell 0 (.int .i64 0) (by rw [HB.out]; rfl)
  simp only [Nat.zero_add] at a0_0 b0_0
  have a0_1 := zA.cell 1 (.int .u64 0) (by rw [HA.out]; rfl)
  have b0_1 := zB.cell 1 (.int .u64 0) (by rw [HB.out]; rfl)
  simp only [Nat.zero_add] at a0_1 b0_1
  have a0_2 := zA.cell 5 (.int .i64 0) (by rw [HA.out]; rfl)
  have b0_2 := zB.cell 5 (.int .i64 0) (by rw [HB.out]; rfl)
  simp only [Nat.zero_add] at a0_2 b0_2
  have a0_3 := zA.cell 6 (.int .i64 0) (by rw [HA.out]; rfl)
  have b0_3 := zB.cell 6 (.int .i64 0) (by rw [HB.out]; rfl)
  simp only [Nat.zero_add] at a0_3 b0_3
  have a0_4 := zA.midOf (vs := sa0.toList) 2 3 (by rw [HA.out, ← SA0.out]; rfl)
  have b0_4 := zB.midOf (vs := sb0.toList) 2 3 (by rw [HB.out, ← SB0.out]; rfl)
  go_enter Tryd.func16, Tryd.ntmps16
  go_wp2_with (first | (refine mgload_want (by rfl) 45 (.tmp 32) rfl w.heap.size 2 rfl sa0.toList _ a0_4 hu_qc rfl LA0.out ?_; simp only [Array.toArray_toList]) | (refine mgload_want (by rfl) 45 (.tmp 34) rfl (w.heap.size + 1) 2 rfl sb0.toList _ b0_4 hu_qc rfl LB0.out ?_; simp only [Array.toArray_toList]))
  refine (CON0.out _).mono ?_
  rintro e w0 ⟨rfl, g0⟩
  clear a0_0 b0_0 a0_1 b0_1 a0_2 b0_2 a0_3 b0_3 a0_4 b0_4
  replace zA := zA.grew g0
  replace zB := zB.grew g0
  replace G := grew_trans G g0
  have a1_0 := zA.cell 7 (.slice A' 0 c') (by rw [HA.out]; rfl)
  have b1_0 := zB.cell 7 (.slice B' 0 d') (by rw [HB.out]; rfl)
  simp only [Nat.zero_add] at a1_0 b1_0
  go_wp2_with fail
  refine (mgsml_re A' B' c' d' _).mono ?_
  rintro e w1 ⟨rfl, g1⟩
  clear a1_0 b1_0
  replace zA := zA.grew g1
  replace zB := zB.grew g1
  replace G := grew_trans G g1
  go_wp2_with fail
  go_ret
  exact ⟨rfl, G⟩
set_option maxRecDepth 100000 in
set_option maxHeartbeats 2000000 in
theorem mgsame_nv (A B : Option Addr) (c d : Nat) (w : World) : Calls Tryd.prog 18 #[.agg (nvZ (.slice A 0 c)), .agg (nvZ (.slice B 0 d))] w fun e w' => e = .returned (.bool true) ∧ Grew w w' := by
  obtain ⟨ga, hga⟩ : ∃ g : Array Value, (nvZ (.slice A 0 c)) = g := ⟨_, rfl⟩
  obtain ⟨gb, hgb⟩ : ∃ g : Array Value, (nvZ (.slice B 0 d)) = g := ⟨_, rfl⟩
  have HA : Hid (ga.toList = (nvZ (.slice A 0 c) : Array Value).toList) := Lib.hid (by rw [← hga])
  have HB : Hid (gb.toList = (nvZ (.slice B 0 d) : Array Value).toList) := Lib.hid (by rw [← hgb])
  rw [hga, hgb]
  clear hga hgb
  have zA := (Ag.new w 52 ga).grew (grew_alloc (grew_refl _) (.cells gb 52))
  have zB := Ag.new (w.alloc (.cells ga 52)) 52 gb
  rw [alloc_size] at zB
  have G := grew_alloc (grew_alloc (grew_refl w) (.cells ga 52)) (.cells gb 52)
  have hu_qc := Tryd.underlying45
  have hu_sg := Tryd.underlying32
  obtain ⟨sa0, hsa0⟩ : ∃ g : Array Value, (qcZ (.slice A 0 c)) = g := ⟨_, rfl⟩
  obtain ⟨sb0, hsb0⟩ : ∃ g : Array Value, (qcZ (.slice B 0 d)) = g := ⟨_, rfl⟩
  have SA0 := Lib.hid hsa0
  have SB0 := Lib.hid hsb0
  have CON0 : Hid (∀ W, Calls Tryd.prog 33 #[.agg sa0, .agg sb0] W fun e w' => e = .returned (.bool true) ∧ Grew W w') := Lib.hid (by intro W; rw [← hsa0, ← hsb0]; exact mgsame_qc A B c d W)
  have LA0 : Hid ((Tryd.prog.info? 45).map (·.size) = some sa0.toList.length) := Lib.hid (by rw [← hsa0]; exact mi_qc)
  have LB0 : Hid ((Tryd.prog.info? 45).map (·.size) = some sb0.toList.length) := Lib.hid (by rw [← hsb0]; exact mi_qc)
  clear hsa0 hsb0
  obtain ⟨sa1, hsa1⟩ : ∃ g : Array Value, (sgZ) = g := ⟨_, rfl⟩
  obtain ⟨sb1, hsb1⟩ : ∃ g : Array Value, (sgZ) = g := ⟨_, rfl⟩
  have SA1 := Lib.hid hsa1
  have SB1 := Lib.hid hsb1
  have CON1 : Hid (∀ W, Calls Tryd.prog 30 #[.agg sa1, .agg sb1] W fun e w' => e = .returned (.bool true) ∧ Grew W w') := Lib.hid (by intro W; rw [← hsa1, ← hsb1]; exact mgsame_sg W)
  have LA1 : Hid ((Tryd.prog.info? 32).map (·.size) = some sa1.toList.length) := Lib.hid (by rw [← hsa1]; exact mi_sg)
  have LB1 : Hid ((Tryd.prog.info? 32).map (·.size) = some sb1.toList.length) := Lib.hid (by rw [← hsb1]; exact mi_sg)
  clear hsa1 hsb1
  have a0_0 := zA.cell 0 (.int .i64 0) (by rw [HA.out]; rfl)
  have b0_0 := zB.cell 0 (.int .i64 0) (by rw [HB.out]; rfl)
  simp only [Nat.zero_add] at a0_0 b0_0
  have a0_1 := zA.cell 1 (.int .i64 0) (by rw [HA.out]; rfl)
  have b0_1 := zB.cell 1 (.int .i64 0) (by rw [HB.out]; rfl)
  simp only [Nat.zero_add] at a0_1 b0_1
  have a0_2 := zA.midOf (vs := sa0.toList) 2 3 (by rw [HA.out, ← SA0.out]; rfl)
  have b0_2 := zB.midOf (vs := sb0.toList) 2 3 (by rw [HB.out, ← SB0.out]; rfl)
  go_enter Tryd.func18, Tryd.ntmps18
  go_wp2_with (first | (refine mgload_want (by rfl) 45 (.tmp 18) rfl w.heap.size 2 rfl sa0.toList _ a0_2 hu_qc rfl LA0.out ?_; simp only [Array.toArray_toList]) | (refine mgload_want (by rfl) 45 (.tmp 20) rfl (w.heap.size + 1) 2 rfl sb0.toList _ b0_2 hu_qc rfl LB0.out ?_; simp only [Array.toArray_toList]))
  refine (CON0.out _).mono ?_
  rintro e w0 ⟨rfl, g0⟩
  clear a0_0 b0_0 a0_1 b0_1 a0_2 b0_2
  replace zA := zA.grew g0
  replace zB := zB.grew g0
  replace G := grew_trans G g0
  have a1_0 := zA.midOf (vs := sa1.toList) 5 21 (by rw [HA.out, ← SA1.out]; rfl)
  have b1_0 := zB.midOf (vs := sb1.toList) 5 21 (by rw [HB.out, ← SB1.out]; rfl)
  go_wp2_with (first | (refine mgload_want (by rfl) 32 (.tmp 25) rfl w.heap.size 5 rfl sa1.toList _ a1_0 hu_sg rfl LA1.out ?_; simp only [Array.toArray_toList]) | (refine mgload_want (by rfl) 32 (.tmp 27) rfl (w.heap.size + 1) 5 rfl sb1.toList _ b1_0 hu_sg rfl LB1.out ?_; simp only [Array.toArray_toList]))
  refine (CON1.out _).mono ?_
  rintro e w1 ⟨rfl, g1⟩
  clear a1_0 b1_0
  replace zA := zA.grew g1
  replace zB := zB.grew g1
  replace G := grew_trans G g1
  go_wp2_with fail
  go_ret
  exact ⟨rfl, G⟩
set_option maxRecDepth 100000 in
theorem mgsml_bl (A B : Option Addr) (c d : Nat) (w : World) : Calls Tryd.prog 19 #[.slice A 0 c, .slice B 0 d, .func (.func 16) #[] #[]] w fun e w' => e = .returned (.bool true) ∧ Grew w w' := by
  go_enter Tryd.func19, Tryd.ntmps19
  go_wp2_with fail
  go_loopw [15] (fun iv wr => iv = .int .i64 0 ∧ Grew w wr) (fun _ _ => 0)
  case atStart => exact ⟨rfl, grew_refl _⟩
  case round =>
    obtain ⟨rfl, hg⟩ := hrel
    go_wp2_with fail
    go_ret
    exact ⟨rfl, hg⟩
end Go.Proofs.YtfnkcahnkccekaaDoor
