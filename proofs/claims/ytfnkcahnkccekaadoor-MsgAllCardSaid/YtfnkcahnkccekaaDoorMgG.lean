/- What is known of messages (mkmgg.py). -/
import Derived.Test.YtfnkcahnkccekaaDoorMgF
namespace Go.Proofs.YtfnkcahnkccekaaDoor
open Go.RowKit
set_option linter.unusedVariables false
set_option linter.unusedSimpArgs false
theorem mgbuild_want {P : Program} {ops : Array Oper} {rest : List Oper} {o : Oper} {a : Act} {w : World} {Q : Exit → Act → World → Prop} (hw : Region.wanted o (yielded ops a.tmps) = true) (t : TypeId) (parts : Array (Nat × Operand)) (ho : o.op = .build t parts) (cells : Array Value)
    (hc : P.built t (parts.map fun (i, x) => (i, a.eval x)).toList = some cells) (h : wpList P ops Q rest (a.put o.dst (.agg cells)) w) : wpList P ops Q (o :: rest) a w :=
  BigFrame.wpList_want hw fun _ hK => wp_build t parts ho (by rw [hc]; rfl) (hK _ _ (by rw [hc]; exact h))
set_option maxRecDepth 100000 in
theorem mgc (n : Int) (w : World) : Calls Tryd.prog 5 #[.int .i64 n] w fun e w' => e = .returned (.agg (cm5 1 n 2 3 4)) ∧ Grew w w' := by
  have hut := Tryd.underlying24
  have SL : Hid ((Tryd.prog.info? 24).map (·.size) = some (cm5 1 n 2 3 4 : Array Value).toList.length) := Lib.hid mi_cm
  go_enter Tryd.func5, Tryd.ntmps5
  go_wp2_with fail
  exact bodyPost_ret (results_mg Tryd.results5 _ _ w.heap.size _ _ rfl (Ag.new w 24 (cm5 1 n 2 3 4)) hut rfl SL.out) rfl ⟨rfl, grew_alloc (grew_refl w) _⟩
set_option maxRecDepth 100000 in
theorem mg_b0 : Tryd.prog.built 55 [(0, .int .i64 1), (3, .agg (cm5 1 0 2 3 4))] = some (mgC ⟨1, 0, 0, 1, 0, 2, 3, 4, 0, 0⟩ (.slice none 0 0) (.slice none 0 0) (.slice none 0 0) (.slice none 0 0) (.slice none 0 0) (.slice none 0 0)) := by kernel_rfl
set_option maxRecDepth 100000 in
theorem mg_b10 : Tryd.prog.built 55 [(0, .int .i64 10)] = some (mgC ⟨10, 0, 0, 0, 0, 0, 0, 0, 0, 0⟩ (.slice none 0 0) (.slice none 0 0) (.slice none 0 0) (.slice none 0 0) (.slice none 0 0) (.slice none 0 0)) := by kernel_rfl
set_option maxRecDepth 100000 in
theorem mg_b257 (A : Option Addr) : Tryd.prog.built 55 [(0, .int .i64 1), (13, .slice A 257 257)] = some (mgC ⟨1, 0, 0, 0, 0, 0, 0, 0, 0, 0⟩ (.slice none 0 0) (.slice none 0 0) (.slice none 0 0) (.slice none 0 0) (.slice none 0 0) (.slice A 257 257)) := by kernel_rfl
theorem mg_make : ∃ X : Obj, ∀ W : World, (Instr.makeSlice 53 (.int .i64 257) (.int .i64 257)).run Tryd.prog W = .ok (.slice (some ⟨W.heap.size, 0, none⟩) 257 257) (W.alloc X) := by
  obtain ⟨i0, hi, hz0, hz1, hz2⟩ : ∃ i, Tryd.prog.info? 48 = some i ∧ i.zero = some (.agg #[.int .i64 0, .int .u64 0, .int .i64 0, .int .u64 0, .slice none 0 0, .int .i64 0, .int .i64 0, .slice none 0 0]) ∧ i.bytes = 96 ∧ True := by
    obtain ⟨i, h, h1⟩ := Option.map_eq_some_iff.1 (show (Tryd.prog.info? 48).map (fun i => (i.zero, i.bytes)) = some (some (.agg (#[.int .i64 0, .int .u64 0, .int .i64 0, .int .u64 0, .slice none 0 0, .int .i64 0, .int .i64 0, .slice none 0 0] : Array Value)), 96) by kernel_rfl)
    exact ⟨i, h, congrArg Prod.fst h1, congrArg Prod.snd h1, trivial⟩
  exact ⟨_, fun W => run_make (P := Tryd.prog) (w := W) 53 48 i0 (.agg #[.int .i64 0, .int .u64 0, .int .i64 0, .int .u64 0, .slice none 0 0, .int .i64 0, .int .i64 0, .slice none 0 0]) Tryd.underlying53 hi hz0 .i64 .i64 257 257 (by omega) (by omega) (by rw [hz1]; omega) (by omega)⟩
set_option maxRecDepth 100000 in
set_option maxHeartbeats 8000000 in
theorem known22 (w : World) : Calls Tryd.prog 4 #[] w fun e w' => e = .returned (.bool true) ∧ Grew w w' := by
  obtain ⟨X, hmk⟩ := mg_make
  obtain ⟨c0, hc0⟩ : ∃ g : Array Value, cm5 1 0 2 3 4 = g := ⟨_, rfl⟩
  obtain ⟨m0, hm0⟩ : ∃ g : Array Value, mgC ⟨1, 0, 0, 1, 0, 2, 3, 4, 0, 0⟩ (.slice none 0 0) (.slice none 0 0) (.slice none 0 0) (.slice none 0 0) (.slice none 0 0) (.slice none 0 0) = g := ⟨_, rfl⟩
  obtain ⟨m10, hm10⟩ : ∃ g : Array Value, mgC ⟨10, 0, 0, 0, 0, 0, 0, 0, 0, 0⟩ (.slice none 0 0) (.slice none 0 0) (.slice none 0 0) (.slice none 0 0) (.slice none 0 0) (.slice none 0 0) = g := ⟨_, rfl⟩
  obtain ⟨ml, hml⟩ : ∃ g : Value → Array Value, (fun v => mgC ⟨1, 0, 0, 0, 0, 0, 0, 0, 0, 0⟩ (.slice none 0 0) (.slice none 0 0) (.slice none 0 0) (.slice none 0 0) (.slice none 0 0) v) = g := ⟨_, rfl⟩
  have HB0 := Lib.hid mg_b0
  have HB10 := Lib.hid mg_b10
  have HBL : Hid (∀ A, Tryd.prog.built 55 [(0, .int .i64 1), (13, .slice A 257 257)] = some (ml (.slice A 257 257))) := Lib.hid (fun A => by rw [← hml]; exact mg_b257 A)
  have CC := Lib.hid (mgc 0)
  have CA := Lib.hid (mgall ⟨1, 0, 0, 1, 0, 2, 3, 4, 0, 0⟩ 4 3 (by omega))
  have CK := Lib.hid (mgcheck_kind ⟨10, 0, 0, 0, 0, 0, 0, 0, 0, 0⟩ (.slice none 0 0) (.slice none 0 0) (.slice none 0 0) (.slice none 0 0) (.slice none 0 0) none 0 0 4 (by decide))
  have CL : Hid (∀ A W, Calls Tryd.prog 7 #[.agg (ml (.slice A 257 257)), .int .i64 4] W fun e w' => e = .returned (.int .i64 4) ∧ Grew W w') := Lib.hid (fun A W => by rw [← hml]; exact mgcheck_long ⟨1, 0, 0, 0, 0, 0, 0, 0, 0, 0⟩ (.slice none 0 0) (.slice none 0 0) (.slice none 0 0) (.slice none 0 0) (.slice none 0 0) A 257 257 4 (by decide) (by decide) (by decide) (by decide) W)
  rw [hc0] at CC HB0
  rw [hm0] at HB0 CA
  rw [hm10] at HB10 CK
  have CW6 := Lib.hid (word_ok 6)
  have CW0 := Lib.hid (word_ok 0)
  rw [show wordS 6 = ⟨#[99, 108, 111, 115, 101, 100]⟩ from rfl] at CW6
  rw [show wordS 0 = ⟨#[]⟩ from rfl] at CW0
  have hut := Tryd.underlying55
  clear hc0 hm0 hm10 hml
  go_enter Tryd.func4, Tryd.ntmps4
  go_wp2_with fail
  refine (CC.out _).mono ?_
  rintro e w1 ⟨rfl, G1⟩
  go_wp2_with (with_reducible refine mgbuild_is rfl 55 #[(0, .const (.int .i64 1)), (3, .tmp 2)] rfl m0 ?_ ?_; · simpa [Act.eval, Act.put] using HB0.out)
  refine (CA.out w1).mono ?_
  rintro e w2 ⟨⟨v, R, rfl, hR, hrs, hown⟩, G2⟩
  clear CC CA HB0
  obtain ⟨A, c, rfl, hrd, hc3, -⟩ := own_rdM hown (fun l hl => by
    obtain ⟨i, hi, rfl⟩ := List.getElem_of_mem hl
    exact (hrs i hi).len) (by decide) hR
  obtain ⟨q, hq, -, hr0⟩ := hrd 0 (by omega)
  subst hq
  obtain ⟨q', hq', -, hr1⟩ := hrd 1 (by omega)
  cases hq'
  obtain ⟨q', hq', -, hr2⟩ := hrd 2 (by omega)
  cases hq'
  obtain ⟨A1, A2, A3, A4, A5, A6, a1, a2, a3, a4, a5, a6, e0⟩ := hrs 0 (by omega)
  obtain ⟨B1, B2, B3, B4, B5, B6, b1, b2, b3, b4, b5, b6, e1⟩ := hrs 1 (by omega)
  obtain ⟨D1, D2, D3, D4, D5, D6, d1, d2, d3, d4, d5, d6, e2⟩ := hrs 2 (by omega)
  rw [e0] at hr0
  rw [e1] at hr1
  rw [e2] at hr2
  have x2 := hr2 2 (.int .i64 2) rfl
  have x1 := hr0 1 (.int .i64 4) rfl
  obtain ⟨l0, hl0⟩ : ∃ g : Array Value, mgC (MH.at ⟨1, 0, 0, 1, 0, 2, 3, 4, 0, 0⟩ 4 0) (.slice A1 0 a1) (.slice A2 0 a2) (.slice A3 0 a3) (.slice A4 0 a4) (.slice A5 0 a5) (.slice A6 0 a6) = g := ⟨_, rfl⟩
  obtain ⟨l1, hl1⟩ : ∃ g : Array Value, mgC (MH.at ⟨1, 0, 0, 1, 0, 2, 3, 4, 0, 0⟩ 4 1) (.slice B1 0 b1) (.slice B2 0 b2) (.slice B3 0 b3) (.slice B4 0 b4) (.slice B5 0 b5) (.slice B6 0 b6) = g := ⟨_, rfl⟩
  have K0 := Lib.hid (mgcheck_ok (MH.at ⟨1, 0, 0, 1, 0, 2, 3, 4, 0, 0⟩ 4 0) (.slice A1 0 a1) (.slice A2 0 a2) (.slice A3 0 a3) (.slice A4 0 a4) (.slice A5 0 a5) A6 0 a6 4 (by decide) (by decide) (by decide) (by decide))
  have K1 := Lib.hid (mgcheck_from (MH.at ⟨1, 0, 0, 1, 0, 2, 3, 4, 0, 0⟩ 4 0) (.slice A1 0 a1) (.slice A2 0 a2) (.slice A3 0 a3) (.slice A4 0 a4) (.slice A5 0 a5) A6 0 a6 3 (by decide) (by decide))
  have KS := Lib.hid (mgsame_ms (MH.at ⟨1, 0, 0, 1, 0, 2, 3, 4, 0, 0⟩ 4 0) A1 A2 A3 A4 A5 A6 A1 A2 A3 A4 A5 A6 a1 a2 a3 a4 a5 a6 a1 a2 a3 a4 a5 a6)
  have KD := Lib.hid (mgdiff_ms (MH.at ⟨1, 0, 0, 1, 0, 2, 3, 4, 0, 0⟩ 4 0) (MH.at ⟨1, 0, 0, 1, 0, 2, 3, 4, 0, 0⟩ 4 1) (.slice A1 0 a1) (.slice A2 0 a2) (.slice A3 0 a3) (.slice A4 0 a4) (.slice A5 0 a5) (.slice A6 0 a6) (.slice B1 0 b1) (.slice B2 0 b2) (.slice B3 0 b3) (.slice B4 0 b4) (.slice B5 0 b5) (.slice B6 0 b6) rfl rfl (by decide))
  have HL0 : Hid ((Tryd.prog.info? 55).map (·.size) = some l0.toList.length) := Lib.hid (by rw [← hl0]; exact mi_ms)
  have HL1 : Hid ((Tryd.prog.info? 55).map (·.size) = some l1.toList.length) := Lib.hid (by rw [← hl1]; exact mi_ms)
  rw [hl0] at hr0 K0 K1 KS KD
  rw [hl1] at hr1 KD
  simp only [Nat.zero_mul, Nat.zero_add, Nat.one_mul, Nat.reduceMul, Nat.reduceAdd] at hr0 hr1 x1 x2
  have R0 : Hid (∀ y, Grew w2 y → y.rangeAt q 0 l0.toList) := Lib.hid (fun y g j u hj => mgcell_gr (hr0 j u hj) g)
  have R1 : Hid (∀ y, Grew w2 y → y.rangeAt q 147 l1.toList) := Lib.hid (fun y g j u hj => mgcell_gr (hr1 j u hj) g)
  have hc4 : (3 : Int) ≤ (c : Int) := by omega
  clear hR hrs hown hrd hr1 hr2 e0 e1 e2 hl0 hl1 hc3
  go_upto_region 4 with fail
  have G12 := grew_trans G1 G2
  have X2 : Hid (∀ y, Grew w2 y → y.cell? ⟨q, 296, none⟩ = some (.int .i64 2)) := Lib.hid (fun y g => mgcell_gr x2 g)
  have X1 : Hid (∀ y, Grew w2 y → y.cell? ⟨q, 1, none⟩ = some (.int .i64 4)) := Lib.hid (fun y g => mgcell_gr x1 g)
  clear x1 x2 hr0
  simp only [List.append_eq, List.cons_append, List.nil_append]
  refine wp_region_rel 64 (fun ix9 => match ix9 with
      | 0 => fun v _ => v = .slice (some ⟨q, 0, none⟩) 3 c
      | 1 => fun v _ => v = .pointer (some ⟨q, 294, none⟩)
      | 2 => fun v _ => v = .pointer (some ⟨q, 296, none⟩)
      | 3 => fun v _ => v = .int .i64 2
      | 4 => fun v _ => v = .bool true
      | 5 => fun v _ => v = .bool true
      | 6 => fun v _ => v = .slice (some ⟨q, 0, none⟩) 3 c
      | 7 => fun v _ => v = .pointer (some ⟨q, 0, none⟩)
      | 8 => fun v _ => v = .pointer (some ⟨q, 1, none⟩)
      | 9 => fun v _ => v = .int .i64 4
      | 10 => fun v _ => v = .bool true
      | 11 => fun v _ => v = .bool true
      | 12 => fun v _ => v = .bool true
      | 13 => fun v _ => v = .slice (some ⟨q, 0, none⟩) 3 c
      | 14 => fun v _ => v = .pointer (some ⟨q, 0, none⟩)
      | 15 => fun v _ => v = .agg l0
      | 16 => fun v _ => v = .int .i64 0
      | 17 => fun v _ => v = .bool true
      | 18 => fun v _ => v = .bool true
      | 19 => fun v _ => v = .bool true
      | 20 => fun v _ => v = .slice (some ⟨q, 0, none⟩) 3 c
      | 21 => fun v _ => v = .pointer (some ⟨q, 0, none⟩)
      | 22 => fun v _ => v = .agg l0
      | 23 => fun v _ => v = .int .i64 1
      | 24 => fun v _ => v = .bool true
      | 25 => fun v _ => v = .bool true
      | 26 => fun v _ => v = .bool true
      | 27 => fun v _ => v = .agg m10
      | 28 => fun v _ => v = .int .i64 1
      | 29 => fun v _ => v = .bool true
      | 30 => fun v _ => v = .bool true
      | 31 => fun v _ => v = .bool true
      | 32 => fun v _ => ∃ b, v = .slice (some ⟨b, 0, none⟩) 257 257
      | 33 => fun v _ => ∃ b, v = .agg (ml (.slice (some ⟨b, 0, none⟩) 257 257))
      | 34 => fun v _ => v = .int .i64 4
      | 35 => fun v _ => v = .bool true
      | 36 => fun v _ => v = .bool true
      | 37 => fun v _ => v = .bool true
      | 38 => fun v _ => v = .slice (some ⟨q, 0, none⟩) 3 c
      | 39 => fun v _ => v = .pointer (some ⟨q, 0, none⟩)
      | 40 => fun v _ => v = .agg l0
      | 41 => fun v _ => v = .slice (some ⟨q, 0, none⟩) 3 c
      | 42 => fun v _ => v = .pointer (some ⟨q, 0, none⟩)
      | 43 => fun v _ => v = .agg l0
      | 44 => fun v _ => v = .bool true
      | 45 => fun v _ => v = .bool true
      | 46 => fun v _ => v = .bool true
      | 47 => fun v _ => v = .slice (some ⟨q, 0, none⟩) 3 c
      | 48 => fun v _ => v = .pointer (some ⟨q, 0, none⟩)
      | 49 => fun v _ => v = .agg l0
      | 50 => fun v _ => v = .slice (some ⟨q, 0, none⟩) 3 c
      | 51 => fun v _ => v = .pointer (some ⟨q, 147, none⟩)
      | 52 => fun v _ => v = .agg l1
      | 53 => fun v _ => v = .bool false
      | 54 => fun v _ => v = .bool true
      | 55 => fun v _ => v = .bool true
      | 56 => fun v _ => v = .bool true
      | 57 => fun v _ => v = .string ⟨#[99, 108, 111, 115, 101, 100]⟩
      | 58 => fun v _ => v = .bool true
      | 59 => fun v _ => v = .bool true
      | 60 => fun v _ => v = .bool true
      | 61 => fun v _ => v = .string ⟨#[]⟩
      | 62 => fun v _ => v = .bool true
      | 63 => fun v _ => v = .bool true
      | _ => fun _ _ => True) (by kernel_rfl) (by kernel_rfl) ?_ ?_ ?_
  · intro i v x y h hg
    match i, h with
    | 0, h | 1, h | 2, h | 3, h | 4, h | 5, h | 6, h | 7, h | 8, h | 9, h | 10, h | 11, h | 12, h | 13, h | 14, h | 15, h | 16, h | 17, h | 18, h | 19, h | 20, h | 21, h | 22, h | 23, h | 24, h | 25, h | 26, h | 27, h | 28, h | 29, h | 30, h | 31, h | 34, h | 35, h | 36, h | 37, h | 38, h | 39, h | 40, h | 41, h | 42, h | 43, h | 44, h | 45, h | 46, h | 47, h | 48, h | 49, h | 50, h | 51, h | 52, h | 53, h | 54, h | 55, h | 56, h | 57, h | 58, h | 59, h | 60, h | 61, h | 62, h | 63, h => exact h
    | 32, h => exact h
    | 33, h => exact h
    | m + 64, _ => trivial
  · refine ⟨?_, ?_, ?_, ?_, ?_, ?_, ?_, ?_, ?_, ?_, ?_, ?_, ?_, ?_, ?_, ?_, ?_, ?_, ?_, ?_, ?_, ?_, ?_, ?_, ?_, ?_, ?_, ?_, ?_, ?_, ?_, ?_, ?_, ?_, ?_, ?_, ?_, ?_, ?_, ?_, ?_, ?_, ?_, ?_, ?_, ?_, ?_, ?_, ?_, ?_, ?_, ?_, ?_, ?_, ?_, ?_, ?_, ?_, ?_, ?_, ?_, ?_, ?_, ?_, trivial⟩
    · intro vs y hg hd
      simp only [actOf, List.take_succ_cons, List.take_zero, List.drop_succ_cons, List.drop_zero, Act.put, List.setIfInBounds_toArray, List.set_cons_succ, List.set_cons_zero, Nat.reduceAdd]
      go_wp2_with fail
      exact ⟨rfl, _, rfl, grew_refl _, rfl⟩
    · intro vs y hg hd
      obtain ⟨h0, _⟩ := hd
      replace h0 := h0 rfl
      simp only [actOf, List.take_succ_cons, List.take_zero, List.drop_succ_cons, List.drop_zero, Act.put, List.setIfInBounds_toArray, List.set_cons_succ, List.set_cons_zero, Nat.reduceAdd]
      rw [show vs 0 = _ from h0]
      go_wp2_with fail
      exact ⟨rfl, _, rfl, grew_refl _, rfl⟩
    · intro vs y hg hd
      obtain ⟨h1, _⟩ := hd
      replace h1 := h1 rfl
      simp only [actOf, List.take_succ_cons, List.take_zero, List.drop_succ_cons, List.drop_zero, Act.put, List.setIfInBounds_toArray, List.set_cons_succ, List.set_cons_zero, Nat.reduceAdd]
      rw [show vs 1 = _ from h1]
      go_wp2_with fail
      exact ⟨rfl, _, rfl, grew_refl _, rfl⟩
    · intro vs y hg hd
      obtain ⟨h2, _⟩ := hd
      replace h2 := h2 rfl
      simp only [actOf, List.take_succ_cons, List.take_zero, List.drop_succ_cons, List.drop_zero, Act.put, List.setIfInBounds_toArray, List.set_cons_succ, List.set_cons_zero, Nat.reduceAdd]
      rw [show vs 2 = _ from h2]
      have hc := X2.out y hg
      go_wp2_with fail
      exact ⟨rfl, _, rfl, grew_refl _, rfl⟩
    · intro vs y hg hd
      obtain ⟨h3, _⟩ := hd
      replace h3 := h3 rfl
      simp only [actOf, List.take_succ_cons, List.take_zero, List.drop_succ_cons, List.drop_zero, Act.put, List.setIfInBounds_toArray, List.set_cons_succ, List.set_cons_zero, Nat.reduceAdd]
      rw [show vs 3 = _ from h3]
      go_wp2_with fail
      exact ⟨rfl, _, rfl, grew_refl _, rfl⟩
    · intro vs y hg hd
      obtain ⟨h4, _⟩ := hd
      replace h4 := h4 rfl
      simp only [actOf, List.take_succ_cons, List.take_zero, List.drop_succ_cons, List.drop_zero, Act.put, List.setIfInBounds_toArray, List.set_cons_succ, List.set_cons_zero, Nat.reduceAdd]
      rw [show vs 4 = _ from h4]
      go_wp2_with fail
      exact ⟨rfl, _, rfl, grew_refl _, rfl⟩
    · intro vs y hg hd
      have hx : (Region.binds .any { on := 5, ground := .guard } = true → vs 5 = .bool true) ∧ True := hd
      have h5 : vs 5 = .bool true := hx.1 rfl
      clear hx
      simp only [actOf, List.take_succ_cons, List.take_zero, List.drop_succ_cons, List.drop_zero, Act.put, List.setIfInBounds_toArray, List.set_cons_succ, List.set_cons_zero, Nat.reduceAdd]
      rw [show vs 5 = _ from h5]
      go_wp2_with fail
      exact ⟨rfl, _, rfl, grew_refl _, rfl⟩
    · intro vs y hg hd
      have hx : (Region.binds .any { on := 6, ground := .data } = true → vs 6 = .slice (some ⟨q, 0, none⟩) 3 c) ∧ (Region.binds .any { on := 5, ground := .guard } = true → vs 5 = .bool true) ∧ True := hd
      have h6 : vs 6 = .slice (some ⟨q, 0, none⟩) 3 c := hx.1 rfl
      have h5 : vs 5 = .bool true := hx.2.1 rfl
      clear hx
      simp only [actOf, List.take_succ_cons, List.take_zero, List.drop_succ_cons, List.drop_zero, Act.put, List.setIfInBounds_toArray, List.set_cons_succ, List.set_cons_zero, Nat.reduceAdd]
      rw [show vs 6 = _ from h6, show vs 5 = _ from h5]
      go_wp2_with fail
      exact ⟨rfl, _, rfl, grew_refl _, rfl⟩
    · intro vs y hg hd
      have hx : (Region.binds .any { on := 7, ground := .data } = true → vs 7 = .pointer (some ⟨q, 0, none⟩)) ∧ (Region.binds .any { on := 5, ground := .guard } = true → vs 5 = .bool true) ∧ True := hd
      have h7 : vs 7 = .pointer (some ⟨q, 0, none⟩) := hx.1 rfl
      have h5 : vs 5 = .bool true := hx.2.1 rfl
      clear hx
      simp only [actOf, List.take_succ_cons, List.take_zero, List.drop_succ_cons, List.drop_zero, Act.put, List.setIfInBounds_toArray, List.set_cons_succ, List.set_cons_zero, Nat.reduceAdd]
      rw [show vs 7 = _ from h7, show vs 5 = _ from h5]
      go_wp2_with fail
      exact ⟨rfl, _, rfl, grew_refl _, rfl⟩
    · intro vs y hg hd
      have hx : (Region.binds .any { on := 8, ground := .data } = true → vs 8 = .pointer (some ⟨q, 1, none⟩)) ∧ (Region.binds .any { on := 5, ground := .guard } = true → vs 5 = .bool true) ∧ True := hd
      have h8 : vs 8 = .pointer (some ⟨q, 1, none⟩) := hx.1 rfl
      have h5 : vs 5 = .bool true := hx.2.1 rfl
      clear hx
      simp only [actOf, List.take_succ_cons, List.take_zero, List.drop_succ_cons, List.drop_zero, Act.put, List.setIfInBounds_toArray, List.set_cons_succ, List.set_cons_zero, Nat.reduceAdd]
      rw [show vs 8 = _ from h8, show vs 5 = _ from h5]
      have hc := X1.out y hg
      go_wp2_with fail
      exact ⟨rfl, _, rfl, grew_refl _, rfl⟩
    · intro vs y hg hd
      have hx : (Region.binds .any { on := 9, ground := .data } = true → vs 9 = .int .i64 4) ∧ (Region.binds .any { on := 5, ground := .guard } = true → vs 5 = .bool true) ∧ True := hd
      have h9 : vs 9 = .int .i64 4 := hx.1 rfl
      have h5 : vs 5 = .bool true := hx.2.1 rfl
      clear hx
      simp only [actOf, List.take_succ_cons, List.take_zero, List.drop_succ_cons, List.drop_zero, Act.put, List.setIfInBounds_toArray, List.set_cons_succ, List.set_cons_zero, Nat.reduceAdd]
      rw [show vs 9 = _ from h9, show vs 5 = _ from h5]
      go_wp2_with fail
      exact ⟨rfl, _, rfl, grew_refl _, rfl⟩
    · intro vs y hg hd
      obtain ⟨h5, h10, _⟩ := hd
      replace h5 := h5 rfl
      replace h10 := h10 rfl
      simp only [actOf, List.take_succ_cons, List.take_zero, List.drop_succ_cons, List.drop_zero, Act.put, List.setIfInBounds_toArray, List.set_cons_succ, List.set_cons_zero, Nat.reduceAdd]
      rw [show vs 5 = _ from h5, show vs 10 = _ from h10]
      go_wp2_with fail
      exact ⟨rfl, _, rfl, grew_refl _, rfl⟩
    · intro vs y hg hd
      obtain ⟨h11, _⟩ := hd
      replace h11 := h11 rfl
      simp only [actOf, List.take_succ_cons, List.take_zero, List.drop_succ_cons, List.drop_zero, Act.put, List.setIfInBounds_toArray, List.set_cons_succ, List.set_cons_zero, Nat.reduceAdd]
      rw [show vs 11 = _ from h11]
      go_wp2_with fail
      exact ⟨rfl, _, rfl, grew_refl _, rfl⟩
    · intro vs y hg hd
      have hx : (Region.binds .any { on := 12, ground := .guard } = true → vs 12 = .bool true) ∧ True := hd
      have h12 : vs 12 = .bool true := hx.1 rfl
      clear hx
      simp only [actOf, List.take_succ_cons, List.take_zero, List.drop_succ_cons, List.drop_zero, Act.put, List.setIfInBounds_toArray, List.set_cons_succ, List.set_cons_zero, Nat.reduceAdd]
      rw [show vs 12 = _ from h12]
      go_wp2_with fail
      exact ⟨rfl, _, rfl, grew_refl _, rfl⟩
    · intro vs y hg hd
      have hx : (Region.binds .any { on := 13, ground := .data } = true → vs 13 = .slice (some ⟨q, 0, none⟩) 3 c) ∧ (Region.binds .any { on := 12, ground := .guard } = true → vs 12 = .bool true) ∧ True := hd
      have h13 : vs 13 = .slice (some ⟨q, 0, none⟩) 3 c := hx.1 rfl
      have h12 : vs 12 = .bool true := hx.2.1 rfl
      clear hx
      simp only [actOf, List.take_succ_cons, List.take_zero, List.drop_succ_cons, List.drop_zero, Act.put, List.setIfInBounds_toArray, List.set_cons_succ, List.set_cons_zero, Nat.reduceAdd]
      rw [show vs 13 = _ from h13, show vs 12 = _ from h12]
      go_wp2_with fail
      exact ⟨rfl, _, rfl, grew_refl _, rfl⟩
    · intro vs y hg hd
      have hx : (Region.binds .any { on := 14, ground := .data } = true → vs 14 = .pointer (some ⟨q, 0, none⟩)) ∧ (Region.binds .any { on := 12, ground := .guard } = true → vs 12 = .bool true) ∧ True := hd
      have h14 : vs 14 = .pointer (some ⟨q, 0, none⟩) := hx.1 rfl
      have h12 : vs 12 = .bool true := hx.2.1 rfl
      clear hx
      simp only [actOf, List.take_succ_cons, List.take_zero, List.drop_succ_cons, List.drop_zero, Act.put, List.setIfInBounds_toArray, List.set_cons_succ, List.set_cons_zero, Nat.reduceAdd]
      rw [show vs 14 = _ from h14, show vs 12 = _ from h12]
      have hm := R0.out y hg
      go_wp2_with (refine mgload_want (by rfl) 55 (.tmp 22) rfl q 0 rfl l0.toList _ hm hut rfl HL0.out ?_; simp only [Array.toArray_toList])
      exact ⟨rfl, _, rfl, grew_refl _, rfl⟩
    · intro vs y hg hd
      have hx : (Region.binds .any { on := 15, ground := .data } = true → vs 15 = .agg l0) ∧ (Region.binds .any { on := 12, ground := .chain } = true → vs 12 = .bool true) ∧ (Region.binds .any { on := 12, ground := .guard } = true → vs 12 = .bool true) ∧ True := hd
      have h15 : vs 15 = .agg l0 := hx.1 rfl
      have h12 : vs 12 = .bool true := hx.2.2.1 rfl
      clear hx
      simp only [actOf, List.take_succ_cons, List.take_zero, List.drop_succ_cons, List.drop_zero, Act.put, List.setIfInBounds_toArray, List.set_cons_succ, List.set_cons_zero, Nat.reduceAdd]
      rw [show vs 15 = _ from h15, show vs 12 = _ from h12]
      go_wp2_with (go_at_call 7; refine (K0.out y).mono ?_; rintro e z ⟨rfl, gz⟩)
      exact ⟨rfl, _, rfl, gz, rfl⟩
    · intro vs y hg hd
      have hx : (Region.binds .any { on := 16, ground := .data } = true → vs 16 = .int .i64 0) ∧ (Region.binds .any { on := 12, ground := .guard } = true → vs 12 = .bool true) ∧ True := hd
      have h16 : vs 16 = .int .i64 0 := hx.1 rfl
      have h12 : vs 12 = .bool true := hx.2.1 rfl
      clear hx
      simp only [actOf, List.take_succ_cons, List.take_zero, List.drop_succ_cons, List.drop_zero, Act.put, List.setIfInBounds_toArray, List.set_cons_succ, List.set_cons_zero, Nat.reduceAdd]
      rw [show vs 16 = _ from h16, show vs 12 = _ from h12]
      go_wp2_with fail
      exact ⟨rfl, _, rfl, grew_refl _, rfl⟩
    · intro vs y hg hd
      obtain ⟨h12, h17, _⟩ := hd
      replace h12 := h12 rfl
      replace h17 := h17 rfl
      simp only [actOf, List.take_succ_cons, List.take_zero, List.drop_succ_cons, List.drop_zero, Act.put, List.setIfInBounds_toArray, List.set_cons_succ, List.set_cons_zero, Nat.reduceAdd]
      rw [show vs 12 = _ from h12, show vs 17 = _ from h17]
      go_wp2_with fail
      exact ⟨rfl, _, rfl, grew_refl _, rfl⟩
    · intro vs y hg hd
      obtain ⟨h18, _⟩ := hd
      replace h18 := h18 rfl
      simp only [actOf, List.take_succ_cons, List.take_zero, List.drop_succ_cons, List.drop_zero, Act.put, List.setIfInBounds_toArray, List.set_cons_succ, List.set_cons_zero, Nat.reduceAdd]
      rw [show vs 18 = _ from h18]
      go_wp2_with fail
      exact ⟨rfl, _, rfl, grew_refl _, rfl⟩
    · intro vs y hg hd
      have hx : (Region.binds .any { on := 19, ground := .guard } = true → vs 19 = .bool true) ∧ True := hd
      have h19 : vs 19 = .bool true := hx.1 rfl
      clear hx
      simp only [actOf, List.take_succ_cons, List.take_zero, List.drop_succ_cons, List.drop_zero, Act.put, List.setIfInBounds_toArray, List.set_cons_succ, List.set_cons_zero, Nat.reduceAdd]
      rw [show vs 19 = _ from h19]
      go_wp2_with fail
      exact ⟨rfl, _, rfl, grew_refl _, rfl⟩
    · intro vs y hg hd
      have hx : (Region.binds .any { on := 20, ground := .data } = true → vs 20 = .slice (some ⟨q, 0, none⟩) 3 c) ∧ (Region.binds .any { on := 19, ground := .guard } = true → vs 19 = .bool true) ∧ True := hd
      have h20 : vs 20 = .slice (some ⟨q, 0, none⟩) 3 c := hx.1 rfl
      have h19 : vs 19 = .bool true := hx.2.1 rfl
      clear hx
      simp only [actOf, List.take_succ_cons, List.take_zero, List.drop_succ_cons, List.drop_zero, Act.put, List.setIfInBounds_toArray, List.set_cons_succ, List.set_cons_zero, Nat.reduceAdd]
      rw [show vs 20 = _ from h20, show vs 19 = _ from h19]
      go_wp2_with fail
      exact ⟨rfl, _, rfl, grew_refl _, rfl⟩
    · intro vs y hg hd
      have hx : (Region.binds .any { on := 21, ground := .data } = true → vs 21 = .pointer (some ⟨q, 0, none⟩)) ∧ (Region.binds .any { on := 19, ground := .guard } = true → vs 19 = .bool true) ∧ True := hd
      have h21 : vs 21 = .pointer (some ⟨q, 0, none⟩) := hx.1 rfl
      have h19 : vs 19 = .bool true := hx.2.1 rfl
      clear hx
      simp only [actOf, List.take_succ_cons, List.take_zero, List.drop_succ_cons, List.drop_zero, Act.put, List.setIfInBounds_toArray, List.set_cons_succ, List.set_cons_zero, Nat.reduceAdd]
      rw [show vs 21 = _ from h21, show vs 19 = _ from h19]
      have hm := R0.out y hg
      go_wp2_with (refine mgload_want (by rfl) 55 (.tmp 29) rfl q 0 rfl l0.toList _ hm hut rfl HL0.out ?_; simp only [Array.toArray_toList])
      exact ⟨rfl, _, rfl, grew_refl _, rfl⟩
    · intro vs y hg hd
      have hx : (Region.binds .any { on := 22, ground := .data } = true → vs 22 = .agg l0) ∧ (Region.binds .any { on := 19, ground := .chain } = true → vs 19 = .bool true) ∧ (Region.binds .any { on := 19, ground := .guard } = true → vs 19 = .bool true) ∧ True := hd
      have h22 : vs 22 = .agg l0 := hx.1 rfl
      have h19 : vs 19 = .bool true := hx.2.2.1 rfl
      clear hx
      simp only [actOf, List.take_succ_cons, List.take_zero, List.drop_succ_cons, List.drop_zero, Act.put, List.setIfInBounds_toArray, List.set_cons_succ, List.set_cons_zero, Nat.reduceAdd]
      rw [show vs 22 = _ from h22, show vs 19 = _ from h19]
      go_wp2_with (go_at_call 7; refine (K1.out y).mono ?_; rintro e z ⟨rfl, gz⟩)
      exact ⟨rfl, _, rfl, gz, rfl⟩
    · intro vs y hg hd
      have hx : (Region.binds .any { on := 23, ground := .data } = true → vs 23 = .int .i64 1) ∧ (Region.binds .any { on := 19, ground := .guard } = true → vs 19 = .bool true) ∧ True := hd
      have h23 : vs 23 = .int .i64 1 := hx.1 rfl
      have h19 : vs 19 = .bool true := hx.2.1 rfl
      clear hx
      simp only [actOf, List.take_succ_cons, List.take_zero, List.drop_succ_cons, List.drop_zero, Act.put, List.setIfInBounds_toArray, List.set_cons_succ, List.set_cons_zero, Nat.reduceAdd]
      rw [show vs 23 = _ from h23, show vs 19 = _ from h19]
      go_wp2_with fail
      exact ⟨rfl, _, rfl, grew_refl _, rfl⟩
    · intro vs y hg hd
      obtain ⟨h19, h24, _⟩ := hd
      replace h19 := h19 rfl
      replace h24 := h24 rfl
      simp only [actOf, List.take_succ_cons, List.take_zero, List.drop_succ_cons, List.drop_zero, Act.put, List.setIfInBounds_toArray, List.set_cons_succ, List.set_cons_zero, Nat.reduceAdd]
      rw [show vs 19 = _ from h19, show vs 24 = _ from h24]
      go_wp2_with fail
      exact ⟨rfl, _, rfl, grew_refl _, rfl⟩
    · intro vs y hg hd
      obtain ⟨h25, _⟩ := hd
      replace h25 := h25 rfl
      simp only [actOf, List.take_succ_cons, List.take_zero, List.drop_succ_cons, List.drop_zero, Act.put, List.setIfInBounds_toArray, List.set_cons_succ, List.set_cons_zero, Nat.reduceAdd]
      rw [show vs 25 = _ from h25]
      go_wp2_with fail
      exact ⟨rfl, _, rfl, grew_refl _, rfl⟩
    · intro vs y hg hd
      have hx : (Region.binds .any { on := 26, ground := .guard } = true → vs 26 = .bool true) ∧ True := hd
      have h26 : vs 26 = .bool true := hx.1 rfl
      clear hx
      simp only [actOf, List.take_succ_cons, List.take_zero, List.drop_succ_cons, List.drop_zero, Act.put, List.setIfInBounds_toArray, List.set_cons_succ, List.set_cons_zero, Nat.reduceAdd]
      rw [show vs 26 = _ from h26]
      go_wp2_with (refine mgbuild_want (by rfl) 55 #[(0, .const (.int .i64 10))] rfl m10 ?_ ?_; · simpa [Act.eval, Act.put] using HB10.out)
      exact ⟨rfl, _, rfl, grew_refl _, rfl⟩
    · intro vs y hg hd
      have hx : (Region.binds .any { on := 27, ground := .data } = true → vs 27 = .agg m10) ∧ (Region.binds .any { on := 26, ground := .chain } = true → vs 26 = .bool true) ∧ (Region.binds .any { on := 26, ground := .guard } = true → vs 26 = .bool true) ∧ True := hd
      have h27 : vs 27 = .agg m10 := hx.1 rfl
      have h26 : vs 26 = .bool true := hx.2.2.1 rfl
      clear hx
      simp only [actOf, List.take_succ_cons, List.take_zero, List.drop_succ_cons, List.drop_zero, Act.put, List.setIfInBounds_toArray, List.set_cons_succ, List.set_cons_zero, Nat.reduceAdd]
      rw [show vs 27 = _ from h27, show vs 26 = _ from h26]
      go_wp2_with (go_at_call 7; refine (CK.out y).mono ?_; rintro e z ⟨rfl, gz⟩)
      exact ⟨rfl, _, rfl, gz, rfl⟩
    · intro vs y hg hd
      have hx : (Region.binds .any { on := 28, ground := .data } = true → vs 28 = .int .i64 1) ∧ (Region.binds .any { on := 26, ground := .guard } = true → vs 26 = .bool true) ∧ True := hd
      have h28 : vs 28 = .int .i64 1 := hx.1 rfl
      have h26 : vs 26 = .bool true := hx.2.1 rfl
      clear hx
      simp only [actOf, List.take_succ_cons, List.take_zero, List.drop_succ_cons, List.drop_zero, Act.put, List.setIfInBounds_toArray, List.set_cons_succ, List.set_cons_zero, Nat.reduceAdd]
      rw [show vs 28 = _ from h28, show vs 26 = _ from h26]
      go_wp2_with fail
      exact ⟨rfl, _, rfl, grew_refl _, rfl⟩
    · intro vs y hg hd
      obtain ⟨h26, h29, _⟩ := hd
      replace h26 := h26 rfl
      replace h29 := h29 rfl
      simp only [actOf, List.take_succ_cons, List.take_zero, List.drop_succ_cons, List.drop_zero, Act.put, List.setIfInBounds_toArray, List.set_cons_succ, List.set_cons_zero, Nat.reduceAdd]
      rw [show vs 26 = _ from h26, show vs 29 = _ from h29]
      go_wp2_with fail
      exact ⟨rfl, _, rfl, grew_refl _, rfl⟩
    · intro vs y hg hd
      obtain ⟨h30, _⟩ := hd
      replace h30 := h30 rfl
      simp only [actOf, List.take_succ_cons, List.take_zero, List.drop_succ_cons, List.drop_zero, Act.put, List.setIfInBounds_toArray, List.set_cons_succ, List.set_cons_zero, Nat.reduceAdd]
      rw [show vs 30 = _ from h30]
      go_wp2_with fail
      exact ⟨rfl, _, rfl, grew_refl _, rfl⟩
    · intro vs y hg hd
      have hx : (Region.binds .any { on := 31, ground := .guard } = true → vs 31 = .bool true) ∧ True := hd
      have h31 : vs 31 = .bool true := hx.1 rfl
      clear hx
      simp only [actOf, List.take_succ_cons, List.take_zero, List.drop_succ_cons, List.drop_zero, Act.put, List.setIfInBounds_toArray, List.set_cons_succ, List.set_cons_zero, Nat.reduceAdd]
      rw [show vs 31 = _ from h31]
      go_wp2_with fail
      exact ⟨rfl, _, rfl, grew_alloc (grew_refl _) _, ⟨_, rfl⟩⟩
    · intro vs y hg hd
      have hx : (Region.binds .any { on := 32, ground := .data } = true → (fun v _ => ∃ b, v = .slice (some ⟨b, 0, none⟩) 257 257) (vs 32) y) ∧ (Region.binds .any { on := 31, ground := .guard } = true → vs 31 = .bool true) ∧ True := hd
      have h32 : (fun v _ => ∃ b, v = .slice (some ⟨b, 0, none⟩) 257 257) (vs 32) y := hx.1 rfl
      have h31 : vs 31 = .bool true := hx.2.1 rfl
      clear hx
      simp only [actOf, List.take_succ_cons, List.take_zero, List.drop_succ_cons, List.drop_zero, Act.put, List.setIfInBounds_toArray, List.set_cons_succ, List.set_cons_zero, Nat.reduceAdd]
      rw [show vs 31 = _ from h31]
      obtain ⟨b9, hb9⟩ := h32
      rw [hb9]
      go_wp2_with (refine mgbuild_want (by rfl) 55 #[(0, .const (.int .i64 1)), (13, .tmp 40)] rfl (ml (.slice (some ⟨b9, 0, none⟩) 257 257)) ?_ ?_; · simpa [Act.eval, Act.put] using HBL.out (some ⟨b9, 0, none⟩))
      exact ⟨rfl, _, rfl, grew_refl _, ⟨_, rfl⟩⟩
    · intro vs y hg hd
      have hx : (Region.binds .any { on := 33, ground := .data } = true → (fun v _ => ∃ b, v = .agg (ml (.slice (some ⟨b, 0, none⟩) 257 257))) (vs 33) y) ∧ (Region.binds .any { on := 31, ground := .chain } = true → vs 31 = .bool true) ∧ (Region.binds .any { on := 31, ground := .guard } = true → vs 31 = .bool true) ∧ True := hd
      have h33 : (fun v _ => ∃ b, v = .agg (ml (.slice (some ⟨b, 0, none⟩) 257 257))) (vs 33) y := hx.1 rfl
      have h31 : vs 31 = .bool true := hx.2.2.1 rfl
      clear hx
      simp only [actOf, List.take_succ_cons, List.take_zero, List.drop_succ_cons, List.drop_zero, Act.put, List.setIfInBounds_toArray, List.set_cons_succ, List.set_cons_zero, Nat.reduceAdd]
      rw [show vs 31 = _ from h31]
      obtain ⟨b9, hb9⟩ := h33
      rw [hb9]
      go_wp2_with (go_at_call 7; refine (CL.out _ y).mono ?_; rintro e z ⟨rfl, gz⟩)
      exact ⟨rfl, _, rfl, gz, rfl⟩
    · intro vs y hg hd
      have hx : (Region.binds .any { on := 34, ground := .data } = true → vs 34 = .int .i64 4) ∧ (Region.binds .any { on := 31, ground := .guard } = true → vs 31 = .bool true) ∧ True := hd
      have h34 : vs 34 = .int .i64 4 := hx.1 rfl
      have h31 : vs 31 = .bool true := hx.2.1 rfl
      clear hx
      simp only [actOf, List.take_succ_cons, List.take_zero, List.drop_succ_cons, List.drop_zero, Act.put, List.setIfInBounds_toArray, List.set_cons_succ, List.set_cons_zero, Nat.reduceAdd]
      rw [show vs 34 = _ from h34, show vs 31 = _ from h31]
      go_wp2_with fail
      exact ⟨rfl, _, rfl, grew_refl _, rfl⟩
    · intro vs y hg hd
      obtain ⟨h31, h35, _⟩ := hd
      replace h31 := h31 rfl
      replace h35 := h35 rfl
      simp only [actOf, List.take_succ_cons, List.take_zero, List.drop_succ_cons, List.drop_zero, Act.put, List.setIfInBounds_toArray, List.set_cons_succ, List.set_cons_zero, Nat.reduceAdd]
      rw [show vs 31 = _ from h31, show vs 35 = _ from h35]
      go_wp2_with fail
      exact ⟨rfl, _, rfl, grew_refl _, rfl⟩
    · intro vs y hg hd
      obtain ⟨h36, _⟩ := hd
      replace h36 := h36 rfl
      simp only [actOf, List.take_succ_cons, List.take_zero, List.drop_succ_cons, List.drop_zero, Act.put, List.setIfInBounds_toArray, List.set_cons_succ, List.set_cons_zero, Nat.reduceAdd]
      rw [show vs 36 = _ from h36]
      go_wp2_with fail
      exact ⟨rfl, _, rfl, grew_refl _, rfl⟩
    · intro vs y hg hd
      have hx : (Region.binds .any { on := 37, ground := .guard } = true → vs 37 = .bool true) ∧ True := hd
      have h37 : vs 37 = .bool true := hx.1 rfl
      clear hx
      simp only [actOf, List.take_succ_cons, List.take_zero, List.drop_succ_cons, List.drop_zero, Act.put, List.setIfInBounds_toArray, List.set_cons_succ, List.set_cons_zero, Nat.reduceAdd]
      rw [show vs 37 = _ from h37]
      go_wp2_with fail
      exact ⟨rfl, _, rfl, grew_refl _, rfl⟩
    · intro vs y hg hd
      have hx : (Region.binds .any { on := 38, ground := .data } = true → vs 38 = .slice (some ⟨q, 0, none⟩) 3 c) ∧ (Region.binds .any { on := 37, ground := .guard } = true → vs 37 = .bool true) ∧ True := hd
      have h38 : vs 38 = .slice (some ⟨q, 0, none⟩) 3 c := hx.1 rfl
      have h37 : vs 37 = .bool true := hx.2.1 rfl
      clear hx
      simp only [actOf, List.take_succ_cons, List.take_zero, List.drop_succ_cons, List.drop_zero, Act.put, List.setIfInBounds_toArray, List.set_cons_succ, List.set_cons_zero, Nat.reduceAdd]
      rw [show vs 38 = _ from h38, show vs 37 = _ from h37]
      go_wp2_with fail
      exact ⟨rfl, _, rfl, grew_refl _, rfl⟩
    · intro vs y hg hd
      have hx : (Region.binds .any { on := 39, ground := .data } = true → vs 39 = .pointer (some ⟨q, 0, none⟩)) ∧ (Region.binds .any { on := 37, ground := .guard } = true → vs 37 = .bool true) ∧ True := hd
      have h39 : vs 39 = .pointer (some ⟨q, 0, none⟩) := hx.1 rfl
      have h37 : vs 37 = .bool true := hx.2.1 rfl
      clear hx
      simp only [actOf, List.take_succ_cons, List.take_zero, List.drop_succ_cons, List.drop_zero, Act.put, List.setIfInBounds_toArray, List.set_cons_succ, List.set_cons_zero, Nat.reduceAdd]
      rw [show vs 39 = _ from h39, show vs 37 = _ from h37]
      have hm := R0.out y hg
      go_wp2_with (refine mgload_want (by rfl) 55 (.tmp 47) rfl q 0 rfl l0.toList _ hm hut rfl HL0.out ?_; simp only [Array.toArray_toList])
      exact ⟨rfl, _, rfl, grew_refl _, rfl⟩
    · intro vs y hg hd
      have hx : (Region.binds .any { on := 37, ground := .guard } = true → vs 37 = .bool true) ∧ True := hd
      have h37 : vs 37 = .bool true := hx.1 rfl
      clear hx
      simp only [actOf, List.take_succ_cons, List.take_zero, List.drop_succ_cons, List.drop_zero, Act.put, List.setIfInBounds_toArray, List.set_cons_succ, List.set_cons_zero, Nat.reduceAdd]
      rw [show vs 37 = _ from h37]
      go_wp2_with fail
      exact ⟨rfl, _, rfl, grew_refl _, rfl⟩
    · intro vs y hg hd
      have hx : (Region.binds .any { on := 41, ground := .data } = true → vs 41 = .slice (some ⟨q, 0, none⟩) 3 c) ∧ (Region.binds .any { on := 37, ground := .guard } = true → vs 37 = .bool true) ∧ True := hd
      have h41 : vs 41 = .slice (some ⟨q, 0, none⟩) 3 c := hx.1 rfl
      have h37 : vs 37 = .bool true := hx.2.1 rfl
      clear hx
      simp only [actOf, List.take_succ_cons, List.take_zero, List.drop_succ_cons, List.drop_zero, Act.put, List.setIfInBounds_toArray, List.set_cons_succ, List.set_cons_zero, Nat.reduceAdd]
      rw [show vs 41 = _ from h41, show vs 37 = _ from h37]
      go_wp2_with fail
      exact ⟨rfl, _, rfl, grew_refl _, rfl⟩
    · intro vs y hg hd
      have hx : (Region.binds .any { on := 42, ground := .data } = true → vs 42 = .pointer (some ⟨q, 0, none⟩)) ∧ (Region.binds .any { on := 37, ground := .guard } = true → vs 37 = .bool true) ∧ True := hd
      have h42 : vs 42 = .pointer (some ⟨q, 0, none⟩) := hx.1 rfl
      have h37 : vs 37 = .bool true := hx.2.1 rfl
      clear hx
      simp only [actOf, List.take_succ_cons, List.take_zero, List.drop_succ_cons, List.drop_zero, Act.put, List.setIfInBounds_toArray, List.set_cons_succ, List.set_cons_zero, Nat.reduceAdd]
      rw [show vs 42 = _ from h42, show vs 37 = _ from h37]
      have hm := R0.out y hg
      go_wp2_with (refine mgload_want (by rfl) 55 (.tmp 50) rfl q 0 rfl l0.toList _ hm hut rfl HL0.out ?_; simp only [Array.toArray_toList])
      exact ⟨rfl, _, rfl, grew_refl _, rfl⟩
    · intro vs y hg hd
      have hx : (Region.binds .any { on := 40, ground := .data } = true → vs 40 = .agg l0) ∧ (Region.binds .any { on := 43, ground := .data } = true → vs 43 = .agg l0) ∧ (Region.binds .any { on := 37, ground := .chain } = true → vs 37 = .bool true) ∧ (Region.binds .any { on := 37, ground := .guard } = true → vs 37 = .bool true) ∧ True := hd
      have h40 : vs 40 = .agg l0 := hx.1 rfl
      have h43 : vs 43 = .agg l0 := hx.2.1 rfl
      have h37 : vs 37 = .bool true := hx.2.2.2.1 rfl
      clear hx
      simp only [actOf, List.take_succ_cons, List.take_zero, List.drop_succ_cons, List.drop_zero, Act.put, List.setIfInBounds_toArray, List.set_cons_succ, List.set_cons_zero, Nat.reduceAdd]
      rw [show vs 40 = _ from h40, show vs 43 = _ from h43, show vs 37 = _ from h37]
      go_wp2_with (go_at_call 8; refine (KS.out y).mono ?_; rintro e z ⟨rfl, gz⟩)
      exact ⟨rfl, _, rfl, gz, rfl⟩
    · intro vs y hg hd
      obtain ⟨h37, h44, _⟩ := hd
      replace h37 := h37 rfl
      replace h44 := h44 rfl
      simp only [actOf, List.take_succ_cons, List.take_zero, List.drop_succ_cons, List.drop_zero, Act.put, List.setIfInBounds_toArray, List.set_cons_succ, List.set_cons_zero, Nat.reduceAdd]
      rw [show vs 37 = _ from h37, show vs 44 = _ from h44]
      go_wp2_with fail
      exact ⟨rfl, _, rfl, grew_refl _, rfl⟩
    · intro vs y hg hd
      obtain ⟨h45, _⟩ := hd
      replace h45 := h45 rfl
      simp only [actOf, List.take_succ_cons, List.take_zero, List.drop_succ_cons, List.drop_zero, Act.put, List.setIfInBounds_toArray, List.set_cons_succ, List.set_cons_zero, Nat.reduceAdd]
      rw [show vs 45 = _ from h45]
      go_wp2_with fail
      exact ⟨rfl, _, rfl, grew_refl _, rfl⟩
    · intro vs y hg hd
      have hx : (Region.binds .any { on := 46, ground := .guard } = true → vs 46 = .bool true) ∧ True := hd
      have h46 : vs 46 = .bool true := hx.1 rfl
      clear hx
      simp only [actOf, List.take_succ_cons, List.take_zero, List.drop_succ_cons, List.drop_zero, Act.put, List.setIfInBounds_toArray, List.set_cons_succ, List.set_cons_zero, Nat.reduceAdd]
      rw [show vs 46 = _ from h46]
      go_wp2_with fail
      exact ⟨rfl, _, rfl, grew_refl _, rfl⟩
    · intro vs y hg hd
      have hx : (Region.binds .any { on := 47, ground := .data } = true → vs 47 = .slice (some ⟨q, 0, none⟩) 3 c) ∧ (Region.binds .any { on := 46, ground := .guard } = true → vs 46 = .bool true) ∧ True := hd
      have h47 : vs 47 = .slice (some ⟨q, 0, none⟩) 3 c := hx.1 rfl
      have h46 : vs 46 = .bool true := hx.2.1 rfl
      clear hx
      simp only [actOf, List.take_succ_cons, List.take_zero, List.drop_succ_cons, List.drop_zero, Act.put, List.setIfInBounds_toArray, List.set_cons_succ, List.set_cons_zero, Nat.reduceAdd]
      rw [show vs 47 = _ from h47, show vs 46 = _ from h46]
      go_wp2_with fail
      exact ⟨rfl, _, rfl, grew_refl _, rfl⟩
    · intro vs y hg hd
      have hx : (Region.binds .any { on := 48, ground := .data } = true → vs 48 = .pointer (some ⟨q, 0, none⟩)) ∧ (Region.binds .any { on := 46, ground := .guard } = true → vs 46 = .bool true) ∧ True := hd
      have h48 : vs 48 = .pointer (some ⟨q, 0, none⟩) := hx.1 rfl
      have h46 : vs 46 = .bool true := hx.2.1 rfl
      clear hx
      simp only [actOf, List.take_succ_cons, List.take_zero, List.drop_succ_cons, List.drop_zero, Act.put, List.setIfInBounds_toArray, List.set_cons_succ, List.set_cons_zero, Nat.reduceAdd]
      rw [show vs 48 = _ from h48, show vs 46 = _ from h46]
      have hm := R0.out y hg
      go_wp2_with (refine mgload_want (by rfl) 55 (.tmp 56) rfl q 0 rfl l0.toList _ hm hut rfl HL0.out ?_; simp only [Array.toArray_toList])
      exact ⟨rfl, _, rfl, grew_refl _, rfl⟩
    · intro vs y hg hd
      have hx : (Region.binds .any { on := 46, ground := .guard } = true → vs 46 = .bool true) ∧ True := hd
      have h46 : vs 46 = .bool true := hx.1 rfl
      clear hx
      simp only [actOf, List.take_succ_cons, List.take_zero, List.drop_succ_cons, List.drop_zero, Act.put, List.setIfInBounds_toArray, List.set_cons_succ, List.set_cons_zero, Nat.reduceAdd]
      rw [show vs 46 = _ from h46]
      go_wp2_with fail
      exact ⟨rfl, _, rfl, grew_refl _, rfl⟩
    · intro vs y hg hd
      have hx : (Region.binds .any { on := 50, ground := .data } = true → vs 50 = .slice (some ⟨q, 0, none⟩) 3 c) ∧ (Region.binds .any { on := 46, ground := .guard } = true → vs 46 = .bool true) ∧ True := hd
      have h50 : vs 50 = .slice (some ⟨q, 0, none⟩) 3 c := hx.1 rfl
      have h46 : vs 46 = .bool true := hx.2.1 rfl
      clear hx
      simp only [actOf, List.take_succ_cons, List.take_zero, List.drop_succ_cons, List.drop_zero, Act.put, List.setIfInBounds_toArray, List.set_cons_succ, List.set_cons_zero, Nat.reduceAdd]
      rw [show vs 50 = _ from h50, show vs 46 = _ from h46]
      go_wp2_with fail
      exact ⟨rfl, _, rfl, grew_refl _, rfl⟩
    · intro vs y hg hd
      have hx : (Region.binds .any { on := 51, ground := .data } = true → vs 51 = .pointer (some ⟨q, 147, none⟩)) ∧ (Region.binds .any { on := 46, ground := .guard } = true → vs 46 = .bool true) ∧ True := hd
      have h51 : vs 51 = .pointer (some ⟨q, 147, none⟩) := hx.1 rfl
      have h46 : vs 46 = .bool true := hx.2.1 rfl
      clear hx
      simp only [actOf, List.take_succ_cons, List.take_zero, List.drop_succ_cons, List.drop_zero, Act.put, List.setIfInBounds_toArray, List.set_cons_succ, List.set_cons_zero, Nat.reduceAdd]
      rw [show vs 51 = _ from h51, show vs 46 = _ from h46]
      have hm := R1.out y hg
      go_wp2_with (refine mgload_want (by rfl) 55 (.tmp 59) rfl q 147 rfl l1.toList _ hm hut rfl HL1.out ?_; simp only [Array.toArray_toList])
      exact ⟨rfl, _, rfl, grew_refl _, rfl⟩
    · intro vs y hg hd
      have hx : (Region.binds .any { on := 49, ground := .data } = true → vs 49 = .agg l0) ∧ (Region.binds .any { on := 52, ground := .data } = true → vs 52 = .agg l1) ∧ (Region.binds .any { on := 46, ground := .chain } = true → vs 46 = .bool true) ∧ (Region.binds .any { on := 46, ground := .guard } = true → vs 46 = .bool true) ∧ True := hd
      have h49 : vs 49 = .agg l0 := hx.1 rfl
      have h52 : vs 52 = .agg l1 := hx.2.1 rfl
      have h46 : vs 46 = .bool true := hx.2.2.2.1 rfl
      clear hx
      simp only [actOf, List.take_succ_cons, List.take_zero, List.drop_succ_cons, List.drop_zero, Act.put, List.setIfInBounds_toArray, List.set_cons_succ, List.set_cons_zero, Nat.reduceAdd]
      rw [show vs 49 = _ from h49, show vs 52 = _ from h52, show vs 46 = _ from h46]
      go_wp2_with (go_at_call 8; refine (KD.out y).mono ?_; rintro e z ⟨rfl, gz⟩)
      exact ⟨rfl, _, rfl, gz, rfl⟩
    · intro vs y hg hd
      have hx : (Region.binds .any { on := 53, ground := .data } = true → vs 53 = .bool false) ∧ (Region.binds .any { on := 46, ground := .guard } = true → vs 46 = .bool true) ∧ True := hd
      have h53 : vs 53 = .bool false := hx.1 rfl
      have h46 : vs 46 = .bool true := hx.2.1 rfl
      clear hx
      simp only [actOf, List.take_succ_cons, List.take_zero, List.drop_succ_cons, List.drop_zero, Act.put, List.setIfInBounds_toArray, List.set_cons_succ, List.set_cons_zero, Nat.reduceAdd]
      rw [show vs 53 = _ from h53, show vs 46 = _ from h46]
      go_wp2_with fail
      exact ⟨rfl, _, rfl, grew_refl _, rfl⟩
    · intro vs y hg hd
      obtain ⟨h46, h54, _⟩ := hd
      replace h46 := h46 rfl
      replace h54 := h54 rfl
      simp only [actOf, List.take_succ_cons, List.take_zero, List.drop_succ_cons, List.drop_zero, Act.put, List.setIfInBounds_toArray, List.set_cons_succ, List.set_cons_zero, Nat.reduceAdd]
      rw [show vs 46 = _ from h46, show vs 54 = _ from h54]
      go_wp2_with fail
      exact ⟨rfl, _, rfl, grew_refl _, rfl⟩
    · intro vs y hg hd
      obtain ⟨h55, _⟩ := hd
      replace h55 := h55 rfl
      simp only [actOf, List.take_succ_cons, List.take_zero, List.drop_succ_cons, List.drop_zero, Act.put, List.setIfInBounds_toArray, List.set_cons_succ, List.set_cons_zero, Nat.reduceAdd]
      rw [show vs 55 = _ from h55]
      go_wp2_with fail
      exact ⟨rfl, _, rfl, grew_refl _, rfl⟩
    · intro vs y hg hd
      have hx : (Region.binds .any { on := 56, ground := .chain } = true → vs 56 = .bool true) ∧ (Region.binds .any { on := 56, ground := .guard } = true → vs 56 = .bool true) ∧ True := hd
      have h56 : vs 56 = .bool true := hx.2.1 rfl
      clear hx
      simp only [actOf, List.take_succ_cons, List.take_zero, List.drop_succ_cons, List.drop_zero, Act.put, List.setIfInBounds_toArray, List.set_cons_succ, List.set_cons_zero, Nat.reduceAdd]
      rw [show vs 56 = _ from h56]
      go_wp2_with (go_at_call 10; refine (CW6.out y).mono ?_; rintro e z ⟨rfl, gz⟩)
      exact ⟨rfl, _, rfl, gz, rfl⟩
    · intro vs y hg hd
      have hx : (Region.binds .any { on := 57, ground := .data } = true → vs 57 = .string ⟨#[99, 108, 111, 115, 101, 100]⟩) ∧ (Region.binds .any { on := 56, ground := .guard } = true → vs 56 = .bool true) ∧ True := hd
      have h57 : vs 57 = .string ⟨#[99, 108, 111, 115, 101, 100]⟩ := hx.1 rfl
      have h56 : vs 56 = .bool true := hx.2.1 rfl
      clear hx
      simp only [actOf, List.take_succ_cons, List.take_zero, List.drop_succ_cons, List.drop_zero, Act.put, List.setIfInBounds_toArray, List.set_cons_succ, List.set_cons_zero, Nat.reduceAdd]
      rw [show vs 57 = _ from h57, show vs 56 = _ from h56]
      go_wp2_with fail
      exact ⟨rfl, _, rfl, grew_refl _, by simp⟩
    · intro vs y hg hd
      obtain ⟨h56, h58, _⟩ := hd
      replace h56 := h56 rfl
      replace h58 := h58 rfl
      simp only [actOf, List.take_succ_cons, List.take_zero, List.drop_succ_cons, List.drop_zero, Act.put, List.setIfInBounds_toArray, List.set_cons_succ, List.set_cons_zero, Nat.reduceAdd]
      rw [show vs 56 = _ from h56, show vs 58 = _ from h58]
      go_wp2_with fail
      exact ⟨rfl, _, rfl, grew_refl _, rfl⟩
    · intro vs y hg hd
      obtain ⟨h59, _⟩ := hd
      replace h59 := h59 rfl
      simp only [actOf, List.take_succ_cons, List.take_zero, List.drop_succ_cons, List.drop_zero, Act.put, List.setIfInBounds_toArray, List.set_cons_succ, List.set_cons_zero, Nat.reduceAdd]
      rw [show vs 59 = _ from h59]
      go_wp2_with fail
      exact ⟨rfl, _, rfl, grew_refl _, rfl⟩
    · intro vs y hg hd
      have hx : (Region.binds .any { on := 60, ground := .chain } = true → vs 60 = .bool true) ∧ (Region.binds .any { on := 60, ground := .guard } = true → vs 60 = .bool true) ∧ True := hd
      have h60 : vs 60 = .bool true := hx.2.1 rfl
      clear hx
      simp only [actOf, List.take_succ_cons, List.take_zero, List.drop_succ_cons, List.drop_zero, Act.put, List.setIfInBounds_toArray, List.set_cons_succ, List.set_cons_zero, Nat.reduceAdd]
      rw [show vs 60 = _ from h60]
      go_wp2_with (go_at_call 10; refine (CW0.out y).mono ?_; rintro e z ⟨rfl, gz⟩)
      exact ⟨rfl, _, rfl, gz, rfl⟩
    · intro vs y hg hd
      have hx : (Region.binds .any { on := 61, ground := .data } = true → vs 61 = .string ⟨#[]⟩) ∧ (Region.binds .any { on := 60, ground := .guard } = true → vs 60 = .bool true) ∧ True := hd
      have h61 : vs 61 = .string ⟨#[]⟩ := hx.1 rfl
      have h60 : vs 60 = .bool true := hx.2.1 rfl
      clear hx
      simp only [actOf, List.take_succ_cons, List.take_zero, List.drop_succ_cons, List.drop_zero, Act.put, List.setIfInBounds_toArray, List.set_cons_succ, List.set_cons_zero, Nat.reduceAdd]
      rw [show vs 61 = _ from h61, show vs 60 = _ from h60]
      go_wp2_with fail
      exact ⟨rfl, _, rfl, grew_refl _, by simp⟩
    · intro vs y hg hd
      obtain ⟨h60, h62, _⟩ := hd
      replace h60 := h60 rfl
      replace h62 := h62 rfl
      simp only [actOf, List.take_succ_cons, List.take_zero, List.drop_succ_cons, List.drop_zero, Act.put, List.setIfInBounds_toArray, List.set_cons_succ, List.set_cons_zero, Nat.reduceAdd]
      rw [show vs 60 = _ from h60, show vs 62 = _ from h62]
      go_wp2_with fail
      exact ⟨rfl, _, rfl, grew_refl _, rfl⟩
  · intro vs w3 hg hJ
    have j0 : vs 0 = .slice (some ⟨q, 0, none⟩) 3 c := hJ 0 (by decide)
    have j1 : vs 1 = .pointer (some ⟨q, 294, none⟩) := hJ 1 (by decide)
    have j2 : vs 2 = .pointer (some ⟨q, 296, none⟩) := hJ 2 (by decide)
    have j3 : vs 3 = .int .i64 2 := hJ 3 (by decide)
    have j4 : vs 4 = .bool true := hJ 4 (by decide)
    have j5 : vs 5 = .bool true := hJ 5 (by decide)
    have j6 : vs 6 = .slice (some ⟨q, 0, none⟩) 3 c := hJ 6 (by decide)
    have j7 : vs 7 = .pointer (some ⟨q, 0, none⟩) := hJ 7 (by decide)
    have j8 : vs 8 = .pointer (some ⟨q, 1, none⟩) := hJ 8 (by decide)
    have j9 : vs 9 = .int .i64 4 := hJ 9 (by decide)
    have j10 : vs 10 = .bool true := hJ 10 (by decide)
    have j11 : vs 11 = .bool true := hJ 11 (by decide)
    have j12 : vs 12 = .bool true := hJ 12 (by decide)
    have j13 : vs 13 = .slice (some ⟨q, 0, none⟩) 3 c := hJ 13 (by decide)
    have j14 : vs 14 = .pointer (some ⟨q, 0, none⟩) := hJ 14 (by decide)
    have j15 : vs 15 = .agg l0 := hJ 15 (by decide)
    have j16 : vs 16 = .int .i64 0 := hJ 16 (by decide)
    have j17 : vs 17 = .bool true := hJ 17 (by decide)
    have j18 : vs 18 = .bool true := hJ 18 (by decide)
    have j19 : vs 19 = .bool true := hJ 19 (by decide)
    have j20 : vs 20 = .slice (some ⟨q, 0, none⟩) 3 c := hJ 20 (by decide)
    have j21 : vs 21 = .pointer (some ⟨q, 0, none⟩) := hJ 21 (by decide)
    have j22 : vs 22 = .agg l0 := hJ 22 (by decide)
    have j23 : vs 23 = .int .i64 1 := hJ 23 (by decide)
    have j24 : vs 24 = .bool true := hJ 24 (by decide)
    have j25 : vs 25 = .bool true := hJ 25 (by decide)
    have j26 : vs 26 = .bool true := hJ 26 (by decide)
    have j27 : vs 27 = .agg m10 := hJ 27 (by decide)
    have j28 : vs 28 = .int .i64 1 := hJ 28 (by decide)
    have j29 : vs 29 = .bool true := hJ 29 (by decide)
    have j30 : vs 30 = .bool true := hJ 30 (by decide)
    have j31 : vs 31 = .bool true := hJ 31 (by decide)
    have j34 : vs 34 = .int .i64 4 := hJ 34 (by decide)
    have j35 : vs 35 = .bool true := hJ 35 (by decide)
    have j36 : vs 36 = .bool true := hJ 36 (by decide)
    have j37 : vs 37 = .bool true := hJ 37 (by decide)
    have j38 : vs 38 = .slice (some ⟨q, 0, none⟩) 3 c := hJ 38 (by decide)
    have j39 : vs 39 = .pointer (some ⟨q, 0, none⟩) := hJ 39 (by decide)
    have j40 : vs 40 = .agg l0 := hJ 40 (by decide)
    have j41 : vs 41 = .slice (some ⟨q, 0, none⟩) 3 c := hJ 41 (by decide)
    have j42 : vs 42 = .pointer (some ⟨q, 0, none⟩) := hJ 42 (by decide)
    have j43 : vs 43 = .agg l0 := hJ 43 (by decide)
    have j44 : vs 44 = .bool true := hJ 44 (by decide)
    have j45 : vs 45 = .bool true := hJ 45 (by decide)
    have j46 : vs 46 = .bool true := hJ 46 (by decide)
    have j47 : vs 47 = .slice (some ⟨q, 0, none⟩) 3 c := hJ 47 (by decide)
    have j48 : vs 48 = .pointer (some ⟨q, 0, none⟩) := hJ 48 (by decide)
    have j49 : vs 49 = .agg l0 := hJ 49 (by decide)
    have j50 : vs 50 = .slice (some ⟨q, 0, none⟩) 3 c := hJ 50 (by decide)
    have j51 : vs 51 = .pointer (some ⟨q, 147, none⟩) := hJ 51 (by decide)
    have j52 : vs 52 = .agg l1 := hJ 52 (by decide)
    have j53 : vs 53 = .bool false := hJ 53 (by decide)
    have j54 : vs 54 = .bool true := hJ 54 (by decide)
    have j55 : vs 55 = .bool true := hJ 55 (by decide)
    have j56 : vs 56 = .bool true := hJ 56 (by decide)
    have j57 : vs 57 = .string ⟨#[99, 108, 111, 115, 101, 100]⟩ := hJ 57 (by decide)
    have j58 : vs 58 = .bool true := hJ 58 (by decide)
    have j59 : vs 59 = .bool true := hJ 59 (by decide)
    have j60 : vs 60 = .bool true := hJ 60 (by decide)
    have j61 : vs 61 = .string ⟨#[]⟩ := hJ 61 (by decide)
    have j62 : vs 62 = .bool true := hJ 62 (by decide)
    have j63 : vs 63 = .bool true := hJ 63 (by decide)
    have s40 := hJ 32 (by decide)
    have s41 := hJ 33 (by decide)
    clear hJ
    simp only [actOf, List.take_succ_cons, List.take_zero, List.drop_succ_cons, List.drop_zero, Act.put, List.setIfInBounds_toArray, List.set_cons_succ, List.set_cons_zero, Nat.reduceAdd]
    go_wp2_with fail
    go_ret
    exact ⟨rfl, grew_trans G12 hg⟩
end Go.Proofs.YtfnkcahnkccekaaDoor
