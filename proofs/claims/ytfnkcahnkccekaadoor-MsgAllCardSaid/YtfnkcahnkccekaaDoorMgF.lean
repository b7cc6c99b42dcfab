/- A message without content sent to all (mkmgf.py). -/
import Derived.Test.YtfnkcahnkccekaaDoorMgE
namespace Go.Proofs.YtfnkcahnkccekaaDoor
open Go.RowKit
set_option linter.unusedVariables false
set_option linter.unusedSimpArgs false
/-- the same message, from f to i -/
def MH.at (h : MH) (f : Int) (i : Nat) : MH := ⟨h.k, f, (i : Int), h.a, h.b, h.c, h.d, h.e, h.lo, h.hi⟩
/-- its cells, wherever its empty rows lie -/
def MsR (h : MH) (r : List Value) : Prop := ∃ (A1 A2 A3 A4 A5 A6 : Option Addr) (c1 c2 c3 c4 c5 c6 : Nat), r = (mgC h (.slice A1 0 c1) (.slice A2 0 c2) (.slice A3 0 c3) (.slice A4 0 c4) (.slice A5 0 c5) (.slice A6 0 c6)).toList
theorem MsR.len {h : MH} {r : List Value} (k : MsR h r) : r.length = 147 := by
  obtain ⟨_, _, _, _, _, _, _, _, _, _, _, _, rfl⟩ := k
  rfl
set_option maxRecDepth 100000 in
theorem ms_inf : (Tryd.prog.info? 55).map (fun i => (i.zero, i.size, i.bytes)) = some (some (.agg (#[.int .i64 0, .int .i64 0, .int .i64 0, .int .i64 0, .int .i64 0, .int .i64 0, .int .i64 0, .int .i64 0, .int .u64 0, .int .i64 0, .int .i64 0, .int .i64 0, .int .i64 0, .int .u64 0, .int .u64 0, .int .u64 0, .int .u64 0, .int .u64 0, .int .u64 0, .int .u64 0, .int .u64 0, .int .u64 0, .int .u64 0, .int .u64 0, .int .u64 0, .int .u64 0, .int .u64 0, .int .u64 0, .int .u64 0, .int .u64 0, .int .u64 0, .slice none 0 0, .int .i64 0, .int .i64 0, .int .i64 0, .int .i64 0, .int .i64 0, .slice none 0 0, .int .u64 0, .int .i64 0, .int .i64 0, .int .i64 0, .int .u64 0, .int .u64 0, .int .u64 0, .int .u64 0, .int .u64 0, .int .u64 0, .int .u64 0, .int .u64 0, .int .u64 0, .int .u64 0, .int .u64 0, .int .u64 0, .int .u64 0, .int .u64 0, .int .u64 0, .int .u64 0, .int .u64 0, .int .u64 0, .slice none 0 0, .int .i64 0, .int .i64 0, .int .i64 0, .int .i64 0, .int .i64 0, .slice none 0 0, .int .i64 0, .int .i64 0, .int .u64 0, .int .u64 0, .int .u64 0, .int .u64 0, .int .u64 0, .int .u64 0, .int .u64 0, .int .u64 0, .int .u64 0, .int .u64 0, .int .u64 0, .int .u64 0, .int .u64 0, .int .u64 0, .int .u64 0, .int .u64 0, .int .u64 0, .int .u64 0, .slice none 0 0, .int .i64 0, .int .u64 0, .int .i64 0, .int .u64 0, .slice none 0 0, .int .i64 0, .int .i64 0, .slice none 0 0, .int .i64 0, .int .u64 0, .int .i64 0, .int .i64 0, .int .i64 0, .int .u64 0, .int .u64 0, .int .u64 0, .int .u64 0, .int .u64 0, .int .u64 0, .int .u64 0, .int .u64 0, .int .u64 0, .int .u64 0, .int .u64 0, .int .u64 0, .int .u64 0, .int .u64 0, .int .u64 0, .int .u64 0, .int .u64 0, .int .u64 0, .slice none 0 0, .int .i64 0, .int .i64 0, .int .i64 0, .int .u64 0, .slice none 0 0, .int .i64 0, .int .i64 0, .int .u64 0, .int .u64 0, .int .u64 0, .int .u64 0, .int .u64 0, .int .u64 0, .int .u64 0, .int .u64 0, .int .u64 0, .int .u64 0, .int .u64 0, .int .u64 0, .int .u64 0, .int .u64 0, .int .u64 0, .int .u64 0, .int .u64 0, .int .u64 0, .slice none 0 0, .slice none 0 0] : Array Value)), 147, 1352) := by kernel_rfl
set_option maxRecDepth 100000 in
theorem ms_fold (h : MH) (v1 v2 v3 v4 v5 v6 : Value) : Array.foldl (fun (cs : Array Value) (x : Value × Nat) => cs.setIfInBounds x.snd x.fst) (#[.int .i64 0, .int .i64 0, .int .i64 0, .int .i64 0, .int .i64 0, .int .i64 0, .int .i64 0, .int .i64 0, .int .u64 0, .int .i64 0, .int .i64 0, .int .i64 0, .int .i64 0, .int .u64 0, .int .u64 0, .int .u64 0, .int .u64 0, .int .u64 0, .int .u64 0, .int .u64 0, .int .u64 0, .int .u64 0, .int .u64 0, .int .u64 0, .int .u64 0, .int .u64 0, .int .u64 0, .int .u64 0, .int .u64 0, .int .u64 0, .int .u64 0, .slice none 0 0, .int .i64 0, .int .i64 0, .int .i64 0, .int .i64 0, .int .i64 0, .slice none 0 0, .int .u64 0, .int .i64 0, .int .i64 0, .int .i64 0, .int .u64 0, .int .u64 0, .int .u64 0, .int .u64 0, .int .u64 0, .int .u64 0, .int .u64 0, .int .u64 0, .int .u64 0, .int .u64 0, .int .u64 0, .int .u64 0, .int .u64 0, .int .u64 0, .int .u64 0, .int .u64 0, .int .u64 0, .int .u64 0, .slice none 0 0, .int .i64 0, .int .i64 0, .int .i64 0, .int .i64 0, .int .i64 0, .slice none 0 0, .int .i64 0, .int .i64 0, .int .u64 0, .int .u64 0, .int .u64 0, .int .u64 0, .int .u64 0, .int .u64 0, .int .u64 0, .int .u64 0, .int .u64 0, .int .u64 0, .int .u64 0, .int .u64 0, .int .u64 0, .int .u64 0, .int .u64 0, .int .u64 0, .int .u64 0, .int .u64 0, .slice none 0 0, .int .i64 0, .int .u64 0, .int .i64 0, .int .u64 0, .slice none 0 0, .int .i64 0, .int .i64 0, .slice none 0 0, .int .i64 0, .int .u64 0, .int .i64 0, .int .i64 0, .int .i64 0, .int .u64 0, .int .u64 0, .int .u64 0, .int .u64 0, .int .u64 0, .int .u64 0, .int .u64 0, .int .u64 0, .int .u64 0, .int .u64 0, .int .u64 0, .int .u64 0, .int .u64 0, .int .u64 0, .int .u64 0, .int .u64 0, .int .u64 0, .int .u64 0, .slice none 0 0, .int .i64 0, .int .i64 0, .int .i64 0, .int .u64 0, .slice none 0 0, .int .i64 0, .int .i64 0, .int .u64 0, .int .u64 0, .int .u64 0, .int .u64 0, .int .u64 0, .int .u64 0, .int .u64 0, .int .u64 0, .int .u64 0, .int .u64 0, .int .u64 0, .int .u64 0, .int .u64 0, .int .u64 0, .int .u64 0, .int .u64 0, .int .u64 0, .int .u64 0, .slice none 0 0, .slice none 0 0] : Array Value) (mgC h v1 v2 v3 v4 v5 v6).zipIdx 0 147 = mgC h v1 v2 v3 v4 v5 v6 := by kernel_rfl
theorem mgcell_new (w : World) (cs : Array Value) (t : TypeId) (j : Nat) (u : Value) (h : cs.toList[j]? = some u) : (w.alloc (.cells cs t)).cell? ((⟨w.heap.size, 0, none⟩ : Addr).add j) = some u := by
  rw [show (⟨w.heap.size, 0, none⟩ : Addr).add j = ⟨w.heap.size, j, none⟩ from by unfold Addr.add; split <;> simp_all]
  simpa using (Ag.new w t cs).cell j u h
theorem one_of {g : Array Value} (h : g.all (·.oneCell') = true) : ∀ u ∈ g.toList, u.oneCell' = true := fun u hu => by
  rw [Array.all_eq_true] at h
  obtain ⟨i, hi, rfl⟩ := List.getElem_of_mem hu
  simpa using h i (by simpa using hi)
set_option maxRecDepth 100000 in
set_option maxHeartbeats 4000000 in
theorem mgall (h : MH) (f : Int) (n : Nat) (hn : n ≤ 1000) (w : World) : Calls Tryd.prog 6 #[.int .i64 f, .int .i64 (n : Int), .agg (mgC h (.slice none 0 0) (.slice none 0 0) (.slice none 0 0) (.slice none 0 0) (.slice none 0 0) (.slice none 0 0))] w fun e w' =>
    (∃ (v : Value) (R : List (List Value)), e = .returned v ∧ R.length = n ∧ (∀ i (hi : i < R.length), MsR (h.at f i) R[i]) ∧ w'.ownsRow (w.heap.size + 1) 55 147 v n R.flatten) ∧ Grew w w' := by
  obtain ⟨i0, hi, hz0, hz1, hz2⟩ := info_parts ms_inf
  obtain ⟨g0, hg0⟩ : ∃ g : Array Value, mgC h (.slice none 0 0) (.slice none 0 0) (.slice none 0 0) (.slice none 0 0) (.slice none 0 0) (.slice none 0 0) = g := ⟨_, rfl⟩
  have CC := Lib.hid (mgcopied h)
  rw [hg0] at CC ⊢
  have HZ0 : Hid (g0.size = 147) := Lib.hid (by rw [← hg0]; rfl)
  clear hg0
  have HL0 : Hid ((Tryd.prog.info? 55).map (·.size) = some g0.toList.length) := Lib.hid (by rw [Array.length_toList, HZ0.out]; exact mi_ms)
  have z0 := Ag.new w 55 g0
  have G0 := grew_alloc (grew_refl w) (.cells g0 55)
  have hs0 : (w.alloc (.cells g0 55)).heap.size = w.heap.size + 1 := alloc_size w _
  have hut := Tryd.underlying55
  have hulT := Tryd.underlying56
  have ezr := mg_zero
  go_enter Tryd.func6, Tryd.ntmps6
  go_wp2_with fail
  obtain ⟨wa, hwa⟩ : ∃ v, w.alloc (.cells g0 55) = v := ⟨_, rfl⟩
  rw [hwa] at z0 G0 hs0 ⊢
  have hown0 : wa.ownsRow (w.heap.size + 1) 55 147 (.slice none 0 0) 0 ([] : List (List Value)).flatten := World.ownsRow_nil _ _ _ _
  have HSA := Lib.hid hs0
  clear hwa hs0
  go_loopw [7, 11] (fun rv iv wr => ∃ (j : Nat) (R : List (List Value)), j ≤ n ∧ iv = .int .i64 (j : Int) ∧ R.length = j ∧ (∀ i (hi : i < R.length), MsR (h.at f i) R[i]) ∧ wr.ownsRow (w.heap.size + 1) 55 147 rv j R.flatten ∧ Ag wr w.heap.size g0.toList ∧ w.heap.size + 1 ≤ wr.heap.size ∧ Grew w wr) (fun _ iv _ => n - (Go.RowKit.intOf iv).toNat)
  case atStart => exact ⟨0, [], Nat.zero_le _, rfl, rfl, fun i hi => absurd hi (by simp), hown0, z0, by rw [HSA.out]; omega, G0⟩
  case round =>
    clear hown0 z0 G0
    obtain ⟨j, R, hj, rfl, hR, hrs, hrow, z0, hbw, hg⟩ := hrel
    by_cases hlt : j < n
    · have e1 : (j : Int) < (n : Int) := by omega
      have e2 : IntKind.i64.wrap ((j : Int) + 1) = (j : Int) + 1 := IntWalk.i64_in _ (by omega)
      have hm0 := z0.cell
      have HR := Lib.hid hR
      have HRS := Lib.hid hrs
      have HROW := Lib.hid hrow
      have HZ := Lib.hid z0
      have HG := Lib.hid hg
      have HBW := Lib.hid hbw
      have HLT := Lib.hid hlt
      clear hR hrs hrow z0 hg hbw hlt hj
      go_wp2_with (with_reducible refine wpList_load_mid rfl 55 (.tmp 5) rfl w.heap.size 0 rfl g0.toList _ hm0 hut rfl HL0.out ?_; simp only [Array.toArray_toList])
      refine (CC.out wr).mono ?_
      rintro e w4 ⟨⟨b1, b2, b3, b4, b5, b6, rfl⟩, g4⟩
      clear hm0
      obtain ⟨g1, hg1⟩ : ∃ g : Array Value, mgC h (.slice (some ⟨b1, 0, none⟩) 0 0) (.slice (some ⟨b2, 0, none⟩) 0 0) (.slice (some ⟨b3, 0, none⟩) 0 0) (.slice (some ⟨b4, 0, none⟩) 0 0) (.slice (some ⟨b5, 0, none⟩) 0 0) (.slice (some ⟨b6, 0, none⟩) 0 0) = g := ⟨_, rfl⟩
      have HG1 := Lib.hid hg1
      rw [hg1]
      clear hg1
      have HZ1 : Hid (g1.size = 147) := Lib.hid (by rw [← HG1.out]; rfl)
      obtain ⟨w5, hw5, ht5, g5, z5⟩ := mgput w4 55 (#[.int .i64 0, .int .i64 0, .int .i64 0, .int .i64 0, .int .i64 0, .int .i64 0, .int .i64 0, .int .i64 0, .int .u64 0, .int .i64 0, .int .i64 0, .int .i64 0, .int .i64 0, .int .u64 0, .int .u64 0, .int .u64 0, .int .u64 0, .int .u64 0, .int .u64 0, .int .u64 0, .int .u64 0, .int .u64 0, .int .u64 0, .int .u64 0, .int .u64 0, .int .u64 0, .int .u64 0, .int .u64 0, .int .u64 0, .int .u64 0, .int .u64 0, .slice none 0 0, .int .i64 0, .int .i64 0, .int .i64 0, .int .i64 0, .int .i64 0, .slice none 0 0, .int .u64 0, .int .i64 0, .int .i64 0, .int .i64 0, .int .u64 0, .int .u64 0, .int .u64 0, .int .u64 0, .int .u64 0, .int .u64 0, .int .u64 0, .int .u64 0, .int .u64 0, .int .u64 0, .int .u64 0, .int .u64 0, .int .u64 0, .int .u64 0, .int .u64 0, .int .u64 0, .int .u64 0, .int .u64 0, .slice none 0 0, .int .i64 0, .int .i64 0, .int .i64 0, .int .i64 0, .int .i64 0, .slice none 0 0, .int .i64 0, .int .i64 0, .int .u64 0, .int .u64 0, .int .u64 0, .int .u64 0, .int .u64 0, .int .u64 0, .int .u64 0, .int .u64 0, .int .u64 0, .int .u64 0, .int .u64 0, .int .u64 0, .int .u64 0, .int .u64 0, .int .u64 0, .int .u64 0, .int .u64 0, .int .u64 0, .slice none 0 0, .int .i64 0, .int .u64 0, .int .i64 0, .int .u64 0, .slice none 0 0, .int .i64 0, .int .i64 0, .slice none 0 0, .int .i64 0, .int .u64 0, .int .i64 0, .int .i64 0, .int .i64 0, .int .u64 0, .int .u64 0, .int .u64 0, .int .u64 0, .int .u64 0, .int .u64 0, .int .u64 0, .int .u64 0, .int .u64 0, .int .u64 0, .int .u64 0, .int .u64 0, .int .u64 0, .int .u64 0, .int .u64 0, .int .u64 0, .int .u64 0, .int .u64 0, .slice none 0 0, .int .i64 0, .int .i64 0, .int .i64 0, .int .u64 0, .slice none 0 0, .int .i64 0, .int .i64 0, .int .u64 0, .int .u64 0, .int .u64 0, .int .u64 0, .int .u64 0, .int .u64 0, .int .u64 0, .int .u64 0, .int .u64 0, .int .u64 0, .int .u64 0, .int .u64 0, .int .u64 0, .int .u64 0, .int .u64 0, .int .u64 0, .int .u64 0, .int .u64 0, .slice none 0 0, .slice none 0 0] : Array Value) g1 (by rw [HZ1.out]; rfl)
      have HW5 := Lib.hid hw5
      have HT5 := Lib.hid ht5
      have SI5 : Hid ((Tryd.prog.info? 55).map (·.size) = some g1.size) := Lib.hid (by rw [HZ1.out]; exact mi_ms)
      have ON5 : Hid (g1.all (·.oneCell') = true) := Lib.hid (by rw [← HG1.out]; exact mgC_one _ _ _ _ _ _ _ _ _ _ _ _ _ _ _ _ _ _ _)
      clear hw5 ht5
      go_upto_region 6 with (with_reducible refine wpList_store_mid rfl 55 (.tmp 9) (.tmp 15) rfl w4.heap.size 0 g1 rfl rfl HT5.out SI5.out ON5.out ?_; rw [HW5.out]; clear HW5 HT5)
      have HQW : Hid (wr.heap.size ≤ w4.heap.size) := Lib.hid g4.size
      have HQ5 : Hid (w4.heap.size < w5.heap.size) := Lib.hid z5.lt
      have g45 := grew_trans g4 g5
      generalize w4.heap.size = q at *
      obtain ⟨g2, hg2⟩ : ∃ g : Array Value, mgC ⟨h.k, f, h.t, h.a, h.b, h.c, h.d, h.e, h.lo, h.hi⟩ (.slice (some ⟨b1, 0, none⟩) 0 0) (.slice (some ⟨b2, 0, none⟩) 0 0) (.slice (some ⟨b3, 0, none⟩) 0 0) (.slice (some ⟨b4, 0, none⟩) 0 0) (.slice (some ⟨b5, 0, none⟩) 0 0) (.slice (some ⟨b6, 0, none⟩) 0 0) = g := ⟨_, rfl⟩
      obtain ⟨g3, hg3⟩ : ∃ g : Array Value, mgC (h.at f j) (.slice (some ⟨b1, 0, none⟩) 0 0) (.slice (some ⟨b2, 0, none⟩) 0 0) (.slice (some ⟨b3, 0, none⟩) 0 0) (.slice (some ⟨b4, 0, none⟩) 0 0) (.slice (some ⟨b5, 0, none⟩) 0 0) (.slice (some ⟨b6, 0, none⟩) 0 0) = g := ⟨_, rfl⟩
      have HG3 := Lib.hid hg3
      have c1 := z5.cell 1 (.int .i64 h.f) (by rw [← HG1.out]; rfl)
      have f1 := (z5.there 1 (by rw [Array.length_toList, HZ1.out]; omega)).2
      have z6 := Ag.cell_set (g := g1) (g' := g2) (v := .int .i64 f) z5 1 (by rw [HZ1.out]; omega) (by rw [← HG1.out, ← hg2]; rfl)
      have K6 := kp_set (S := fun i => i = q) (kp_refl _ w5) (p := ⟨q, 1, none⟩) (.inl rfl) (.int .i64 f)
      obtain ⟨w6, hw6⟩ : ∃ v, w5.setCell ⟨q, 1, none⟩ (.int .i64 f) = v := ⟨_, rfl⟩
      rw [hw6] at z6 K6
      have c2 := z6.cell 2 (.int .i64 h.t) (by rw [← hg2]; rfl)
      have f2 := (z6.there 2 (by rw [Array.length_toList, ← hg2]; show 2 < 147; omega)).2
      have z7 := Ag.cell_set (g := g2) (g' := g3) (v := .int .i64 (j : Int)) z6 2 (by rw [← hg2]; show _ ≤ 147; omega) (by rw [← hg2, ← hg3]; rfl)
      have K7 := kp_set (S := fun i => i = q) K6 (p := ⟨q, 2, none⟩) (.inl rfl) (.int .i64 (j : Int))
      simp only [Nat.zero_add] at c1 f1 c2 f2
      obtain ⟨w7, hw7⟩ : ∃ v, w6.setCell ⟨q, 2, none⟩ (.int .i64 (j : Int)) = v := ⟨_, rfl⟩
      rw [hw7] at z7 K7
      have G7 : Grew wr w7 := below_kp g45 K7 g45.size (fun i (hi : i = q) => by have := HQW.out; omega)
      clear z5 z6 K6 K7 hg2 hg3 g45 g4 g5
      go_upto_region 7 with fail
      try rw [hw6]
      try rw [hw7]
      clear c1 f1 c2 f2 hw6 hw7
      have HZ3 : Hid (g3.size = 147) := Lib.hid (by rw [← HG3.out]; rfl)
      have HL3 : Hid ((Tryd.prog.info? 55).map (·.size) = some g3.toList.length) := Lib.hid (by rw [Array.length_toList, HZ3.out]; exact mi_ms)
      have HFOLD : Hid (Array.foldl (fun (cs : Array Value) (x : Value × Nat) => cs.setIfInBounds x.snd x.fst) (#[.int .i64 0, .int .i64 0, .int .i64 0, .int .i64 0, .int .i64 0, .int .i64 0, .int .i64 0, .int .i64 0, .int .u64 0, .int .i64 0, .int .i64 0, .int .i64 0, .int .i64 0, .int .u64 0, .int .u64 0, .int .u64 0, .int .u64 0, .int .u64 0, .int .u64 0, .int .u64 0, .int .u64 0, .int .u64 0, .int .u64 0, .int .u64 0, .int .u64 0, .int .u64 0, .int .u64 0, .int .u64 0, .int .u64 0, .int .u64 0, .int .u64 0, .slice none 0 0, .int .i64 0, .int .i64 0, .int .i64 0, .int .i64 0, .int .i64 0, .slice none 0 0, .int .u64 0, .int .i64 0, .int .i64 0, .int .i64 0, .int .u64 0, .int .u64 0, .int .u64 0, .int .u64 0, .int .u64 0, .int .u64 0, .int .u64 0, .int .u64 0, .int .u64 0, .int .u64 0, .int .u64 0, .int .u64 0, .int .u64 0, .int .u64 0, .int .u64 0, .int .u64 0, .int .u64 0, .int .u64 0, .slice none 0 0, .int .i64 0, .int .i64 0, .int .i64 0, .int .i64 0, .int .i64 0, .slice none 0 0, .int .i64 0, .int .i64 0, .int .u64 0, .int .u64 0, .int .u64 0, .int .u64 0, .int .u64 0, .int .u64 0, .int .u64 0, .int .u64 0, .int .u64 0, .int .u64 0, .int .u64 0, .int .u64 0, .int .u64 0, .int .u64 0, .int .u64 0, .int .u64 0, .int .u64 0, .int .u64 0, .slice none 0 0, .int .i64 0, .int .u64 0, .int .i64 0, .int .u64 0, .slice none 0 0, .int .i64 0, .int .i64 0, .slice none 0 0, .int .i64 0, .int .u64 0, .int .i64 0, .int .i64 0, .int .i64 0, .int .u64 0, .int .u64 0, .int .u64 0, .int .u64 0, .int .u64 0, .int .u64 0, .int .u64 0, .int .u64 0, .int .u64 0, .int .u64 0, .int .u64 0, .int .u64 0, .int .u64 0, .int .u64 0, .int .u64 0, .int .u64 0, .int .u64 0, .int .u64 0, .slice none 0 0, .int .i64 0, .int .i64 0, .int .i64 0, .int .u64 0, .slice none 0 0, .int .i64 0, .int .i64 0, .int .u64 0, .int .u64 0, .int .u64 0, .int .u64 0, .int .u64 0, .int .u64 0, .int .u64 0, .int .u64 0, .int .u64 0, .int .u64 0, .int .u64 0, .int .u64 0, .int .u64 0, .int .u64 0, .int .u64 0, .int .u64 0, .int .u64 0, .int .u64 0, .slice none 0 0, .slice none 0 0] : Array Value) g3.zipIdx 0 147 = g3) := Lib.hid (by rw [← HG3.out]; exact ms_fold _ _ _ _ _ _ _)
      have HONE : Hid (∀ u ∈ g3.toList, u.oneCell' = true) := Lib.hid (one_of (by rw [← HG3.out]; exact mgC_one _ _ _ _ _ _ _ _ _ _ _ _ _ _ _ _ _ _ _))
      have HLEN : Hid (g3.toList.length = 147) := Lib.hid (by rw [Array.length_toList, HZ3.out])
      have hrow7 := ownsRow_gr HROW.out G7
      have hm7 := z7.cell
      have hg147 := HZ3.out
      have hj9 := HLT.out
      have hb7 : w.heap.size + 1 ≤ w7.heap.size := Nat.le_trans HBW.out G7.size
      have HZ7 := Lib.hid (HZ.out.grew G7)
      have HTS : Hid (R.flatten ++ g3.toList = (R ++ [g3.toList]).flatten) := Lib.hid (by rw [List.flatten_append]; simp)
      have HG7 := Lib.hid (grew_trans HG.out G7)
      go_wp2_with (first
        | (with_reducible refine wpList_load_mid rfl 55 (.tmp 9) rfl q 0 rfl g3.toList _ hm7 hut rfl HL3.out ?_; simp only [Array.toArray_toList])
        | (at_builtin; rw [HFOLD.out]; refine mgappend _ rfl (.tmp 20) (.tmp 22) 56 rfl (w.heap.size + 1) 55 i0 (.agg (#[.int .i64 0, .int .i64 0, .int .i64 0, .int .i64 0, .int .i64 0, .int .i64 0, .int .i64 0, .int .i64 0, .int .u64 0, .int .i64 0, .int .i64 0, .int .i64 0, .int .i64 0, .int .u64 0, .int .u64 0, .int .u64 0, .int .u64 0, .int .u64 0, .int .u64 0, .int .u64 0, .int .u64 0, .int .u64 0, .int .u64 0, .int .u64 0, .int .u64 0, .int .u64 0, .int .u64 0, .int .u64 0, .int .u64 0, .int .u64 0, .int .u64 0, .slice none 0 0, .int .i64 0, .int .i64 0, .int .i64 0, .int .i64 0, .int .i64 0, .slice none 0 0, .int .u64 0, .int .i64 0, .int .i64 0, .int .i64 0, .int .u64 0, .int .u64 0, .int .u64 0, .int .u64 0, .int .u64 0, .int .u64 0, .int .u64 0, .int .u64 0, .int .u64 0, .int .u64 0, .int .u64 0, .int .u64 0, .int .u64 0, .int .u64 0, .int .u64 0, .int .u64 0, .int .u64 0, .int .u64 0, .slice none 0 0, .int .i64 0, .int .i64 0, .int .i64 0, .int .i64 0, .int .i64 0, .slice none 0 0, .int .i64 0, .int .i64 0, .int .u64 0, .int .u64 0, .int .u64 0, .int .u64 0, .int .u64 0, .int .u64 0, .int .u64 0, .int .u64 0, .int .u64 0, .int .u64 0, .int .u64 0, .int .u64 0, .int .u64 0, .int .u64 0, .int .u64 0, .int .u64 0, .int .u64 0, .int .u64 0, .slice none 0 0, .int .i64 0, .int .u64 0, .int .i64 0, .int .u64 0, .slice none 0 0, .int .i64 0, .int .i64 0, .slice none 0 0, .int .i64 0, .int .u64 0, .int .i64 0, .int .i64 0, .int .i64 0, .int .u64 0, .int .u64 0, .int .u64 0, .int .u64 0, .int .u64 0, .int .u64 0, .int .u64 0, .int .u64 0, .int .u64 0, .int .u64 0, .int .u64 0, .int .u64 0, .int .u64 0, .int .u64 0, .int .u64 0, .int .u64 0, .int .u64 0, .int .u64 0, .slice none 0 0, .int .i64 0, .int .i64 0, .int .i64 0, .int .u64 0, .slice none 0 0, .int .i64 0, .int .i64 0, .int .u64 0, .int .u64 0, .int .u64 0, .int .u64 0, .int .u64 0, .int .u64 0, .int .u64 0, .int .u64 0, .int .u64 0, .int .u64 0, .int .u64 0, .int .u64 0, .int .u64 0, .int .u64 0, .int .u64 0, .int .u64 0, .int .u64 0, .int .u64 0, .slice none 0 0, .slice none 0 0] : Array Value)) 147 1352 hulT hi hz0 hz1 hz2 rfl (by decide) _ _ _ rfl (hrow7.alloc _) ⟨w7.heap.size, 0, none⟩ 1 1 g3.toList rfl (by rw [HLEN.out]) (fun k u hk => mgcell_new w7 g3 55 k u hk) HONE.out (by unfold maxLen; omega) (by omega) (by simp; omega) ?_; intro v' w8 hown8 hgrow8 hob8))
      go_roundw
      case rel =>
        have ga := grew_alloc (grew_refl w7) (.cells g3 55)
        have K8 : Kp (fun g => w.heap.size + 1 ≤ g) w7 w8 := kp_grown (kp_grew ga) hgrow8 (fun g e => .inl (own_base hrow7 g e))
        have hsz8 := K8.size
        refine ⟨j + 1, R ++ [g3.toList], by omega, by go_num, by rw [List.length_append, HR.out]; rfl, fun i hi => ?_, by rw [← HTS.out]; exact hown8, HZ7.out.kp K8 (by omega), by omega, below_kp HG7.out K8 HG7.out.size (fun i hi => by omega)⟩
        by_cases h9 : i < R.length
        · rw [List.getElem_append_left h9]
          exact HRS.out i h9
        · have : i = j := by have := HR.out; simp at hi; omega
          subst this
          rw [List.getElem_append_right (by omega)]
          simp only [List.getElem_singleton]
          exact ⟨_, _, _, _, _, _, _, _, _, _, _, _, by rw [← HG3.out]⟩
      case measure => simp [Go.RowKit.intOf] <;> omega
    · obtain rfl : j = n := by omega
      clear hlt
      go_wp2_with fail
      go_ret
      exact ⟨⟨_, R, rfl, hR, hrs, hrow⟩, hg⟩
end Go.Proofs.YtfnkcahnkccekaaDoor
