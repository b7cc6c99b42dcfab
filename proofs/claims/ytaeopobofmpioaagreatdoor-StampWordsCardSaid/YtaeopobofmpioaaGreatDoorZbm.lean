/- folkmootlaw11.OfKeys; the reference's Who, Signed, ValidStamp. -/
import Derived.Test.YtaeopobofmpioaaGreatDoorZbl
import Derived.Test.YtaeopobofmpioaaGreatDoorZbj
import Derived.Test.YtaeopobofmpioaaGreatDoorZan
import Derived.Test.YtaeopobofmpioaaGreatDoorZat
namespace Go.Proofs.YtaeopobofmpioaaGreatDoor
set_option linter.unusedSimpArgs false
set_option linter.unusedVariables false
open Go.RowKit
set_option linter.unusedVariables false
set_option linter.unusedSimpArgs false
structure KV (w : World) (B : Nat) (f : Int) (R : List Nat) (h : Int) (v : Value) : Prop where
  out : ∃ A c, v = .agg (kyS f A R.length c h) ∧ Rd w w.heap.size A (u64L R) ∧ (∀ ad, A = some ad → B ≤ ad.block)
theorem KV.gr {w w' : World} {B : Nat} {f : Int} {R : List Nat} {h : Int} {v : Value} (k : KV w B f R h v) (g : Grew w w') : KV w' B f R h v := by
  obtain ⟨A, c, h1, h2, h3⟩ := k.out
  exact ⟨A, c, h1, h2.gr g, h3⟩
theorem rk_built (f h : Int) (A : Option Addr) (n c : Nat) : Tryz.prog.built 24 [(0, .int .i64 f), (1, .slice A n c), (2, .int .i64 h)] = some (kyS f A n c h) := by kernel_rfl
theorem rk_info : (Tryz.prog.info? 24).map (·.size) = some 3 := by kernel_rfl
theorem kyS_one (f h : Int) (A : Option Addr) (n c : Nat) : (kyS f A n c h).all (·.oneCell') = true := by simp [kyS, Value.oneCell']
set_option maxRecDepth 100000 in
set_option maxHeartbeats 1000000 in
theorem ofkeys_ok (f : Int) (R : List Nat) (RA : Option Addr) (Rc : Nat) (h : Int) (hl : R.length ≤ 1048576) (w : World) (hr : Rd w w.heap.size RA (u64L R)) :
    Calls Tryz.prog 35 #[.agg (kyS f RA R.length Rc h)] w fun e w' => ∃ A' c', e = .returned (.agg (kyS f A' R.length c' h)) ∧ Rd w' w'.heap.size A' (u64L R) ∧ Grew w w' := by
  have z0 := Ag.new w 36 (kyS f RA R.length Rc h)
  have G0 := grew_alloc (grew_refl w) (.cells (kyS f RA R.length Rc h) 36)
  have hur := Tryz.underlying24
  have CO := Lib.hid (fun W hR => mkof_any RA Rc _ R hl W hR (Nat.le_refl _))
  go_enter Tryz.func35, Tryz.ntmps35
  go_wp2_with fail
  have z2 : Ag ((w.alloc (.cells (kyS f RA R.length Rc h) 36)).alloc (.cells (#[.int .i64 0, .slice none 0 0, .int .i64 0]) 24)) (w.heap.size + 1) (#[.int .i64 0, .slice none 0 0, .int .i64 0] : Array Value).toList := by
    have := Ag.new (w.alloc (.cells (kyS f RA R.length Rc h) 36)) 24 (#[.int .i64 0, .slice none 0 0, .int .i64 0])
    simpa using this
  have z1 := z0.grew (grew_alloc (grew_refl _) (.cells (#[.int .i64 0, .slice none 0 0, .int .i64 0]) 24))
  have G2 := grew_alloc G0 (.cells (#[.int .i64 0, .slice none 0 0, .int .i64 0]) 24)
  clear z0 G0
  generalize (w.alloc (.cells (kyS f RA R.length Rc h) 36)).alloc (.cells (#[.int .i64 0, .slice none 0 0, .int .i64 0]) 24) = w2 at *
  have HC0 : Hid (∀ y, Grew w2 y → y.cell? ⟨w.heap.size, 0, none⟩ = some (.int .i64 f)) := Lib.hid (fun y g => by simpa using (z1.grew g).cell 0 _ rfl)
  have HC1 : Hid (∀ y, Grew w2 y → y.cell? ⟨w.heap.size, 1, none⟩ = some (.slice RA R.length Rc)) := Lib.hid (fun y g => by simpa using (z1.grew g).cell 1 _ rfl)
  have HC2 : Hid (∀ y, Grew w2 y → y.cell? ⟨w.heap.size, 2, none⟩ = some (.int .i64 h)) := Lib.hid (fun y g => by simpa using (z1.grew g).cell 2 _ rfl)
  have r2 := hr.gr G2
  have HRY := Lib.hid (fun y (g : Grew w2 y) => r2.gr g)
  clear z1 hr r2
  refine wp_region_rel 9 (fun i => match i with
      | 0 => fun v _ => v = .pointer (some ⟨w.heap.size, 0, none⟩)
      | 1 => fun v _ => v = .pointer (some ⟨w.heap.size, 0, none⟩)
      | 2 => fun v _ => v = .int .i64 f
      | 3 => fun v _ => v = .pointer (some ⟨w.heap.size, 1, none⟩)
      | 4 => fun v _ => v = .slice RA R.length Rc
      | 5 => fun v w => PV w w2.heap.size R v
      | 6 => fun v _ => v = .pointer (some ⟨w.heap.size, 2, none⟩)
      | 7 => fun v _ => v = .int .i64 h
      | 8 => fun v w => KV w w2.heap.size f R h v
      | _ => fun _ _ => True) (by kernel_rfl) (by kernel_rfl) ?_ ?_ ?_
  · intro i v x y h hg
    match i, h with
    | 0, h | 1, h | 2, h | 3, h | 4, h | 6, h | 7, h => exact h
    | 5, h => exact PV.gr h hg
    | 8, h => exact KV.gr h hg
    | m + 9, _ => trivial
  · refine ⟨?_, ?_, ?_, ?_, ?_, ?_, ?_, ?_, ?_, trivial⟩
    · intro vs y hg hd
      simp only [actOf, List.take_succ_cons, List.take_zero, List.drop_succ_cons, List.drop_zero, Act.put, List.setIfInBounds_toArray, List.set_cons_succ, List.set_cons_zero, Nat.reduceAdd]
      go_wp2_with fail
      exact ⟨rfl, _, rfl, grew_refl _, rfl⟩
    · intro vs y hg hd
      obtain ⟨h0, _⟩ := hd
      replace h0 := h0 rfl
      simp only [actOf, List.take_succ_cons, List.take_zero, List.drop_succ_cons, List.drop_zero, Act.put, List.setIfInBounds_toArray, List.set_cons_succ, List.set_cons_zero, Nat.reduceAdd]
      rw [show vs 0 = _ from h0]
      go_wp2_with fail
      exact ⟨rfl, _, rfl, grew_refl _, rfl⟩
    · intro vs y hg hd
      obtain ⟨h1, _⟩ := hd
      replace h1 := h1 rfl
      simp only [actOf, List.take_succ_cons, List.take_zero, List.drop_succ_cons, List.drop_zero, Act.put, List.setIfInBounds_toArray, List.set_cons_succ, List.set_cons_zero, Nat.reduceAdd]
      rw [show vs 1 = _ from h1]
      have hc := HC0.out y hg
      go_wp2_with fail
      exact ⟨rfl, _, rfl, grew_refl _, rfl⟩
    · intro vs y hg hd
      simp only [actOf, List.take_succ_cons, List.take_zero, List.drop_succ_cons, List.drop_zero, Act.put, List.setIfInBounds_toArray, List.set_cons_succ, List.set_cons_zero, Nat.reduceAdd]
      go_wp2_with fail
      exact ⟨rfl, _, rfl, grew_refl _, rfl⟩
    · intro vs y hg hd
      obtain ⟨h3, _⟩ := hd
      replace h3 := h3 rfl
      simp only [actOf, List.take_succ_cons, List.take_zero, List.drop_succ_cons, List.drop_zero, Act.put, List.setIfInBounds_toArray, List.set_cons_succ, List.set_cons_zero, Nat.reduceAdd]
      rw [show vs 3 = _ from h3]
      have hc := HC1.out y hg
      go_wp2_with fail
      exact ⟨rfl, _, rfl, grew_refl _, rfl⟩
    · intro vs y hg hd
      obtain ⟨h4, _⟩ := hd
      replace h4 := h4 rfl
      simp only [actOf, List.take_succ_cons, List.take_zero, List.drop_succ_cons, List.drop_zero, Act.put, List.setIfInBounds_toArray, List.set_cons_succ, List.set_cons_zero, Nat.reduceAdd]
      rw [show vs 4 = _ from h4]
      go_wp2_with (go_at_call 100; refine (CO.out y (HRY.out y hg)).mono ?_; rintro e z ⟨A2, c2, rfl, hr2, hb2, gz⟩)
      exact ⟨rfl, _, rfl, gz, ⟨A2, c2, rfl, hr2, fun ad h => by have := hb2 ad h; have := hg.size; omega⟩⟩
    · intro vs y hg hd
      simp only [actOf, List.take_succ_cons, List.take_zero, List.drop_succ_cons, List.drop_zero, Act.put, List.setIfInBounds_toArray, List.set_cons_succ, List.set_cons_zero, Nat.reduceAdd]
      go_wp2_with fail
      exact ⟨rfl, _, rfl, grew_refl _, rfl⟩
    · intro vs y hg hd
      obtain ⟨h6, _⟩ := hd
      replace h6 := h6 rfl
      simp only [actOf, List.take_succ_cons, List.take_zero, List.drop_succ_cons, List.drop_zero, Act.put, List.setIfInBounds_toArray, List.set_cons_succ, List.set_cons_zero, Nat.reduceAdd]
      rw [show vs 6 = _ from h6]
      have hc := HC2.out y hg
      go_wp2_with fail
      exact ⟨rfl, _, rfl, grew_refl _, rfl⟩
    · intro vs y hg hd
      obtain ⟨h2, h5, h7, _⟩ := hd
      replace h2 := h2 rfl
      replace h5 := h5 rfl
      replace h7 := h7 rfl
      simp only [actOf, List.take_succ_cons, List.take_zero, List.drop_succ_cons, List.drop_zero, Act.put, List.setIfInBounds_toArray, List.set_cons_succ, List.set_cons_zero, Nat.reduceAdd]
      rw [show vs 2 = _ from h2, show vs 7 = _ from h7]
      obtain ⟨A2, c2, hv, hr2, hb2⟩ := PV.out h5
      rw [hv]
      have HBU := Lib.hid (rk_built f h A2 R.length c2)
      go_wp2_with (with_reducible refine wpList_build_is rfl 24 #[(0, .tmp 5), (1, .tmp 8), (2, .tmp 10)] rfl (kyS f A2 R.length c2 h) ?_ ?_; · simpa [Act.eval, Act.put] using HBU.out)
      exact ⟨rfl, _, rfl, grew_refl _, ⟨A2, c2, rfl, hr2, hb2⟩⟩
  · intro vs y hg hJ
    have j0 : vs 0 = .pointer (some ⟨w.heap.size, 0, none⟩) := hJ 0 (by decide)
    have j1 : vs 1 = .pointer (some ⟨w.heap.size, 0, none⟩) := hJ 1 (by decide)
    have j2 : vs 2 = .int .i64 f := hJ 2 (by decide)
    have j3 : vs 3 = .pointer (some ⟨w.heap.size, 1, none⟩) := hJ 3 (by decide)
    have j4 : vs 4 = .slice RA R.length Rc := hJ 4 (by decide)
    have j6 : vs 6 = .pointer (some ⟨w.heap.size, 2, none⟩) := hJ 6 (by decide)
    have j7 : vs 7 = .int .i64 h := hJ 7 (by decide)
    have s8 := hJ 5 (by decide)
    have s11 := hJ 8 (by decide)
    clear hJ
    simp only [actOf, List.take_succ_cons, List.take_zero, List.drop_succ_cons, List.drop_zero, Act.put, List.setIfInBounds_toArray, List.set_cons_succ, List.set_cons_zero, Nat.reduceAdd]
    obtain ⟨A2, c2, j9, r3, hb3⟩ := KV.out s11
    rw [j9]
    clear s8 s11 j9
    have hz1 := z2.lt
    have HNE : Hid (∀ ad, A2 = some ad → ad.block ≠ w.heap.size + 1) := Lib.hid (fun ad h => by have := hb3 ad h; omega)
    have z3 := z2.grew hg
    have G3 := grew_trans G2 hg
    clear z2 G2 hg hb3 hz1
    have HTH : Hid (y.there (w.heap.size + 1) 0 (kyS f A2 R.length c2 h).size) := Lib.hid (z3.thereN 3 rfl)
    have HSI : Hid ((Tryz.prog.info? 24).map (·.size) = some (kyS f A2 R.length c2 h).size) := Lib.hid rk_info
    have HON := Lib.hid (kyS_one f h A2 R.length c2)
    have K3 := setCells_kp (kyS f A2 R.length c2 h).toList (w.heap.size + 1) 0 y
    have r4 := (r3.kp K3 (Nat.le_refl _) (fun ad h1 h2 h3 => HNE.out ad h1 h3)).more K3.size
    have z4 := Ag.set (vs := (kyS f A2 R.length c2 h).toList) z3 rfl
    have G4 := setCells_grew (o := 0) (b := w.heap.size + 1) (kyS f A2 R.length c2 h).toList G3 (by omega)
    go_wp2_with (with_reducible refine wpList_store_mid rfl 24 (.tmp 2) (.tmp 11) rfl (w.heap.size + 1) 0 (kyS f A2 R.length c2 h) rfl rfl HTH.out HSI.out HON.out ?_)
    exact bodyPost_ret (results_ag1 Tryz.results35 _ _ (w.heap.size + 1) _ _ rfl z4 hur rfl rk_info) rfl ⟨A2, ⟨c2, rfl⟩, r4, G4⟩
def whB (f who : Int) : Bool := decide (0 ≤ who ∧ who < 3 * f + 1)
set_option maxRecDepth 100000 in
theorem rwho_ok (f : Int) (hf : 1 ≤ f ∧ f ≤ 3) (RA : Option Addr) (n Rc : Nat) (h who : Int) (w : World) :
    Calls Tryz.prog 83 #[.agg (kyS f RA n Rc h), .int .i64 who] w fun e w' => e = .returned (.bool (whB f who)) ∧ Grew w w' := by
  have z0 := Ag.new w 24 (kyS f RA n Rc h)
  have G0 := grew_alloc (grew_refl w) (.cells (kyS f RA n Rc h) 24)
  have c0 : (w.alloc (.cells (kyS f RA n Rc h) 24)).cell? ⟨w.heap.size, 0, none⟩ = some (.int .i64 f) := by simpa using z0.cell 0 _ rfl
  have CN := Lib.hid (fun W => rn_ok f hf W)
  obtain ⟨nn, hnn⟩ : ∃ nn, 3 * f + 1 = nn := ⟨_, rfl⟩
  have HB : Hid (whB f who = decide (0 ≤ who ∧ who < nn)) := Lib.hid (by unfold whB; rw [hnn])
  rw [hnn] at CN
  clear z0 hnn hf
  by_cases h0 : 0 ≤ who
  · by_cases h1 : who < nn
    · have e0 : decide (0 ≤ who) = true := decide_eq_true h0
      have e1 : decide (who < nn) = true := decide_eq_true h1
      rw [HB.out, decide_eq_true ⟨h0, h1⟩]
      clear HB
      go_enter Tryz.func83, Tryz.ntmps83
      go_wp2_with (go_at_call 70; refine (CN.out _).mono ?_; rintro e z ⟨rfl, hz⟩; rw [hz]; clear hz)
      go_ret
      exact ⟨rfl, G0⟩
    · have e0 : decide (0 ≤ who) = true := decide_eq_true h0
      have e1 : decide (who < nn) = false := decide_eq_false h1
      rw [HB.out, decide_eq_false (by omega)]
      clear HB
      go_enter Tryz.func83, Tryz.ntmps83
      go_wp2_with (go_at_call 70; refine (CN.out _).mono ?_; rintro e z ⟨rfl, hz⟩; rw [hz]; clear hz)
      go_ret
      exact ⟨rfl, G0⟩
  · have e0 : decide (0 ≤ who) = false := decide_eq_false h0
    rw [HB.out, decide_eq_false (by omega)]
    clear HB
    go_enter Tryz.func83, Tryz.ntmps83
    go_wp2_with fail
    go_ret
    exact ⟨rfl, G0⟩
def sgB (R : List Nat) (h : Int) (n : Nat) (d : Nat) (sw lf : Int) (s : Nat → Nat) (l : List Nat) : Prop := sw = (n : Int) ∧ n < R.length ∧ vrS (R.getD n 0) lf s l (d : Int) h = true
set_option maxRecDepth 100000 in
set_option maxHeartbeats 2000000 in
theorem rsigned_ok (f : Int) (R : List Nat) (RA : Option Addr) (Rc : Nat) (h : Int) (n d : Nat) (sw lf : Int) (s : Nat → Nat) (A : Option Addr) (c : Nat) (l : List Nat) (hn : n ≤ 1000) (hlf : in64 lf) (hl : l.length ≤ 1000) (hs : ∀ k, k < 18 → s k < 18446744073709551616) (hb : ∀ x ∈ l, x < 18446744073709551616) (hd : d < 18446744073709551616)
    (hRl : R.length ≤ 1000) (w : World) (hrR : Rd w w.heap.size RA (u64L R)) (hrl : Rd w w.heap.size A (u64L l)) :
    Calls Tryz.prog 84 #[.agg (kyS f RA R.length Rc h), .int .i64 (n : Int), .agg (sgC sw lf s (.slice A l.length c)), .int .u64 (d : Nat)] w fun e w' => e = .returned (.bool (decide (ckE R h n d sw lf s l = 0))) ∧ Grew w w' := by
  have z1 := (Ag.new w 24 (kyS f RA R.length Rc h)).grew (grew_alloc (grew_refl _) (.cells (sgC sw lf s (.slice A l.length c)) 28))
  have z2 := Ag.new (w.alloc (.cells (kyS f RA R.length Rc h) 24)) 28 (sgC sw lf s (.slice A l.length c))
  rw [alloc_size] at z2
  have G0 := grew_alloc (grew_alloc (grew_refl w) (.cells (kyS f RA R.length Rc h) 24)) (.cells (sgC sw lf s (.slice A l.length c)) 28)
  have hug := Tryz.underlying28
  have HSL : Hid ((Tryz.prog.info? 28).map (·.size) = some (sgC sw lf s (.slice A l.length c)).toList.length) := Lib.hid rg_info
  have CV := Lib.hid (fun W hR => refvsig_ok (R.getD n 0) sw lf s A c l (d : Int) h (by omega) hlf hs hb ⟨by omega, by omega⟩ W hR)
  have HLL := Lib.hid hrl
  have HRR := Lib.hid hrR
  have HCK : Hid (∀ b, (decide (sw = (n : Int)) && decide (n < R.length) && vrS (R.getD n 0) lf s l (d : Int) h) = b → decide (ckE R h n d sw lf s l = 0) = b) := Lib.hid (fun b hb => by
    rw [← hb]
    unfold ckE
    by_cases a1 : R.length ≤ n
    · rw [if_pos a1]
      have : ¬ n < R.length := by omega
      simp [this]
    · rw [if_neg a1]
      have a1' : n < R.length := by omega
      by_cases a2 : sw = (n : Int)
      · rw [if_pos a2]
        cases hv : vrS (R.getD n 0) lf s l (d : Int) h <;> simp [a2, a1']
      · rw [if_neg a2]; simp [a2])
  clear hrR hrl hs hb hlf hl hd
  go_enter Tryz.func84, Tryz.ntmps84
  go_wp2_with fail
  generalize (w.alloc (.cells (kyS f RA R.length Rc h) 24)).alloc (.cells (sgC sw lf s (.slice A l.length c)) 28) = w1 at *
  have k1 : ∀ y : Gr w1, y.val.cell? ⟨w.heap.size, 1, none⟩ = some (.slice RA R.length Rc) := fun y => by simpa using (z1.gr y).cell 1 _ rfl
  have k2 : ∀ y : Gr w1, y.val.cell? ⟨w.heap.size, 2, none⟩ = some (.int .i64 h) := fun y => by simpa using (z1.gr y).cell 2 _ rfl
  have k0 : ∀ y : Gr w1, y.val.cell? ⟨w.heap.size + 1, 0, none⟩ = some (.int .i64 sw) := fun y => by simpa using (z2.gr y).cell 0 _ rfl
  have M2 : Hid (∀ y : Gr w1, y.val.rangeAt (w.heap.size + 1) 0 (sgC sw lf s (.slice A l.length c)).toList) := Lib.hid (fun y => (z2.gr y).cell)
  have RL : Hid (∀ y : Gr w1, Rd y.val y.val.heap.size A (u64L l)) := Lib.hid (fun y => (HLL.out.gr G0).gr y.ok)
  have hn0 : (0 : Int) ≤ (n : Int) := by omega
  have g0 : decide ((0 : Int) ≤ (n : Int)) = true := decide_eq_true hn0
  clear z1 z2 HLL
  by_cases a2 : sw = (n : Int)
  case neg =>
    have e2 : (sw == (n : Int)) = false := by simpa using a2
    have HE := HCK.out false (by simp [a2])
    clear HCK a2 HRR
    refine wp_region_grew (grew_refl w1) (by kernel_rfl) (by kernel_rfl) ?_
    repeat (first
      | (go_big_quiet_want; refine quiet_load_mid 28 (.tmp 6) rfl (w.heap.size + 1) 0 rfl (sgC sw lf s (.slice A l.length c)).toList _ M2.out hug rfl HSL.out ?_; simp only [Act.put, List.setIfInBounds_toArray, List.set_cons_succ, List.set_cons_zero, Array.toArray_toList]; go_big_quiet_on)
      | (go_big_quiet_step (first
        | (go_at_call 138; exact callG (CV.out _ (RL.out _))))))
    refine wpQuiet_nil ?_
    rintro w8 ⟨⟨w8', g8⟩, rfl⟩
    go_wp2_with fail
    go_ret
    exact ⟨by rw [HE]; rfl, grew_trans G0 g8⟩
  have e2 : (sw == (n : Int)) = true := by simpa using a2
  by_cases a1 : n < R.length
  case neg =>
    have e1 : decide (n < R.length) = false := decide_eq_false a1
    have HE := HCK.out false (by simp [a1])
    clear HCK a2 HRR a1
    refine wp_region_grew (grew_refl w1) (by kernel_rfl) (by kernel_rfl) ?_
    repeat (first
      | (go_big_quiet_want; refine quiet_load_mid 28 (.tmp 6) rfl (w.heap.size + 1) 0 rfl (sgC sw lf s (.slice A l.length c)).toList _ M2.out hug rfl HSL.out ?_; simp only [Act.put, List.setIfInBounds_toArray, List.set_cons_succ, List.set_cons_zero, Array.toArray_toList]; go_big_quiet_on)
      | (go_big_quiet_step (first
        | (go_at_call 138; exact callG (CV.out _ (RL.out _))))))
    refine wpQuiet_nil ?_
    rintro w8 ⟨⟨w8', g8⟩, rfl⟩
    go_wp2_with fail
    go_ret
    exact ⟨by rw [HE]; rfl, grew_trans G0 g8⟩
  have e1 : decide (n < R.length) = true := decide_eq_true a1
  have hn1 : (n : Int) < (R.length : Int) := by omega
  have HE := HCK.out (vrS (R.getD n 0) lf s l (d : Int) h) (by simp [a2, a1])
  obtain ⟨ad, hA, -, -⟩ := HRR.out n (by simpa [u64L] using a1)
  have kR : ∀ y : Gr w1, y.val.cell? (ad.add n) = some (.int .u64 (R.getD n 0 : Nat)) := fun y => by
    obtain ⟨ad', hA', _, hc⟩ := (HRR.out.gr (grew_trans G0 y.ok)) n (by simpa [u64L] using a1)
    rw [hA] at hA'
    injection hA' with hA'
    subst hA'
    rw [hc]
    simp [u64L, List.getD_eq_getElem?_getD, a1]
  subst hA
  have HE2 := Lib.hid HE
  clear HCK a2 HRR HE
  generalize R.getD n 0 = root at *
  refine wp_region_grew (grew_refl w1) (by kernel_rfl) (by kernel_rfl) ?_
  repeat (first
    | (go_big_quiet_want; refine quiet_load_mid 28 (.tmp 6) rfl (w.heap.size + 1) 0 rfl (sgC sw lf s (.slice A l.length c)).toList _ M2.out hug rfl HSL.out ?_; simp only [Act.put, List.setIfInBounds_toArray, List.set_cons_succ, List.set_cons_zero, Array.toArray_toList]; go_big_quiet_on)
    | (go_big_quiet_step (first
      | (go_at_call 138; exact callG (CV.out _ (RL.out _))))))
  refine wpQuiet_nil ?_
  rintro w8 ⟨⟨w8', g8⟩, rfl⟩
  go_wp2_with fail
  go_ret
  exact ⟨by rw [HE2.out]; rfl, grew_trans G0 g8⟩
end Go.Proofs.YtaeopobofmpioaaGreatDoor

namespace Go.Proofs.YtaeopobofmpioaaGreatDoor
set_option linter.unusedSimpArgs false
set_option linter.unusedVariables false
open Go.RowKit
set_option linter.unusedVariables false
set_option linter.unusedSimpArgs false
theorem ckE_07 (R : List Nat) (h : Int) (n d : Nat) (sw lf : Int) (s : Nat → Nat) (l : List Nat) : ckE R h n d sw lf s l = 0 ∨ ckE R h n d sw lf s l = 7 := by
  unfold ckE
  split
  · exact .inr rfl
  · split
    · split
      · exact .inl rfl
      · exact .inr rfl
    · exact .inr rfl
set_option maxRecDepth 100000 in
set_option maxHeartbeats 2000000 in
theorem rstvalid_ok (f : Int) (hf : 1 ≤ f ∧ f ≤ 3) (R : List Nat) (RA : Option Addr) (Rc : Nat) (h : Int) (cm : Nat) (who at_ sw lf : Int) (s : Nat → Nat) (A : Option Addr) (c : Nat) (l : List Nat) (hc : cm < 18446744073709551616) (hw : in64 who) (ha : in64 at_) (hsw : in64 sw) (hlf : in64 lf) (hl : l.length ≤ 1000) (hs : ∀ k, k < 18 → s k < 18446744073709551616) (hb : ∀ x ∈ l, x < 18446744073709551616)
    (hRl : R.length ≤ 1000) (w : World) (hrR : Rd w w.heap.size RA (u64L R)) (hrl : Rd w w.heap.size A (u64L l)) :
    Calls Tryz.prog 27 #[.agg (kyS f RA R.length Rc h), .agg (stC cm who at_ sw lf s (.slice A l.length c))] w fun e w' => e = .returned (.int .i64 (vaE f R h cm who at_ sw lf s l)) ∧ Grew w w' := by
  have huk := Tryz.underlying24
  have hug := Tryz.underlying28
  have HSK : Hid ((Tryz.prog.info? 24).map (·.size) = some (kyS f RA R.length Rc h).toList.length) := Lib.hid rk_info
  have HSG : Hid ((Tryz.prog.info? 28).map (·.size) = some (sgC sw lf s (.slice A l.length c)).toList.length) := Lib.hid rg_info
  have z1 := (Ag.new w 24 (kyS f RA R.length Rc h)).grew (grew_alloc (grew_refl _) (.cells (stC cm who at_ sw lf s (.slice A l.length c)) 30))
  have z2 := Ag.new (w.alloc (.cells (kyS f RA R.length Rc h) 24)) 30 (stC cm who at_ sw lf s (.slice A l.length c))
  rw [alloc_size] at z2
  have G0 := grew_alloc (grew_alloc (grew_refl w) (.cells (kyS f RA R.length Rc h) 24)) (.cells (stC cm who at_ sw lf s (.slice A l.length c)) 30)
  have b1 : ((w.alloc (.cells (kyS f RA R.length Rc h) 24)).alloc (.cells (stC cm who at_ sw lf s (.slice A l.length c)) 30)).cell? ⟨w.heap.size + 1, 1, none⟩ = some (.int .i64 who) := by simpa using z2.cell 1 _ rfl
  have hm := z1.cell
  have CW := Lib.hid (fun W => rwho_ok f hf RA R.length Rc h who W)
  have HRR := Lib.hid hrR
  have HLL := Lib.hid hrl
  clear hrR hrl
  by_cases hA : 0 ≤ who ∧ who < 3 * f + 1
  case neg =>
    have HE : Hid (vaE f R h cm who at_ sw lf s l = 1) := Lib.hid (by
      unfold vaE
      by_cases h0 : who < 0
      · rw [if_pos h0]
      · rw [if_neg h0, if_pos (by omega)])
    rw [show whB f who = false from decide_eq_false hA] at CW
    clear hs hb hA
    go_enter Tryz.func27, Tryz.ntmps27
    go_wp2_with (first
      | (with_reducible refine wpList_load_mid rfl 24 (.tmp 2) rfl w.heap.size 0 rfl (kyS f RA R.length Rc h).toList _ hm huk rfl HSK.out ?_; simp only [Array.toArray_toList]))
    refine (CW.out _).mono ?_
    rintro e w2 ⟨rfl, gg⟩
    have G2 := grew_trans G0 gg
    have y1 := z1.grew gg
    have y2 := z2.grew gg
    have c2 : w2.cell? ⟨w.heap.size + 1, 2, none⟩ = some (.int .i64 at_) := by simpa using y2.cell 2 _ rfl
    clear hm z1 z2 gg CW G0
    go_wp2_with fail
    go_ret
    exact ⟨by rw [HE.out]; rfl, G2⟩
  rw [show whB f who = true from decide_eq_true hA] at CW
  have HV : Hid (vaE f R h cm who at_ sw lf s l = if tmB at_ = true then ckE R h who.toNat (stD cm who at_) sw lf s l else 1) := Lib.hid (by unfold vaE; rw [if_neg (by omega), if_neg (by omega)])
  by_cases hT : 1 ≤ at_ ∧ at_ ≤ 1099511627776
  case neg =>
    have HE : Hid (vaE f R h cm who at_ sw lf s l = 1) := Lib.hid (by rw [HV.out, show tmB at_ = false from decide_eq_false hT]; rfl)
    clear HV hs hb hA
    rcases (show at_ < 1 ∨ (¬ at_ < 1 ∧ 1099511627776 < at_) by omega) with t | ⟨t, t'⟩
    · have t0 : decide (at_ < 1) = true := decide_eq_true t
      clear hT t
      go_enter Tryz.func27, Tryz.ntmps27
      go_wp2_with (first
        | (with_reducible refine wpList_load_mid rfl 24 (.tmp 2) rfl w.heap.size 0 rfl (kyS f RA R.length Rc h).toList _ hm huk rfl HSK.out ?_; simp only [Array.toArray_toList]))
      refine (CW.out _).mono ?_
      rintro e w2 ⟨rfl, gg⟩
      have G2 := grew_trans G0 gg
      have y1 := z1.grew gg
      have y2 := z2.grew gg
      have c2 : w2.cell? ⟨w.heap.size + 1, 2, none⟩ = some (.int .i64 at_) := by simpa using y2.cell 2 _ rfl
      clear hm z1 z2 gg CW G0
      go_wp2_with fail
      go_ret
      exact ⟨by rw [HE.out]; rfl, G2⟩
    · have t0 : decide (at_ < 1) = false := decide_eq_false t
      have t1 : decide (1099511627776 < at_) = true := decide_eq_true t'
      clear hT t t'
      go_enter Tryz.func27, Tryz.ntmps27
      go_wp2_with (first
        | (with_reducible refine wpList_load_mid rfl 24 (.tmp 2) rfl w.heap.size 0 rfl (kyS f RA R.length Rc h).toList _ hm huk rfl HSK.out ?_; simp only [Array.toArray_toList]))
      refine (CW.out _).mono ?_
      rintro e w2 ⟨rfl, gg⟩
      have G2 := grew_trans G0 gg
      have y1 := z1.grew gg
      have y2 := z2.grew gg
      have c2 : w2.cell? ⟨w.heap.size + 1, 2, none⟩ = some (.int .i64 at_) := by simpa using y2.cell 2 _ rfl
      clear hm z1 z2 gg CW G0
      go_wp2_with fail
      go_ret
      exact ⟨by rw [HE.out]; rfl, G2⟩
  obtain ⟨n, rfl⟩ := Int.eq_ofNat_of_zero_le hA.1
  have HE : Hid (vaE f R h cm (n : Int) at_ sw lf s l = ckE R h n (stD cm (n : Int) at_) sw lf s l) := Lib.hid (by rw [HV.out, show tmB at_ = true from decide_eq_true hT]; simp)
  have CS := Lib.hid (fun W h1 h2 => rsigned_ok f R RA Rc h n (stD cm (n : Int) at_) sw lf s A c l (by omega) hlf hl hs hb (stD_lt _ _ _) hRl W h1 h2)
  have CD := Lib.hid (fun W => rstdigest_ok cm (n : Int) at_ hc hw ha W)
  have t0 : decide (at_ < 1) = false := decide_eq_false (by omega)
  have t1 : decide (1099511627776 < at_) = false := decide_eq_false (by omega)
  have H07 := Lib.hid (ckE_07 R h n (stD cm (n : Int) at_) sw lf s l)
  clear HV hs hb hA hT
  generalize stD cm (n : Int) at_ = d at *
  generalize ckE R h n d sw lf s l = ck at *
  obtain ⟨bk, hbk⟩ : ∃ b, decide (ck = 0) = b := ⟨_, rfl⟩
  rw [hbk] at CS
  have HBK := Lib.hid hbk
  clear hbk
  go_enter Tryz.func27, Tryz.ntmps27
  go_wp2_with (first
    | (with_reducible refine wpList_load_mid rfl 24 (.tmp 2) rfl w.heap.size 0 rfl (kyS f RA R.length Rc h).toList _ hm huk rfl HSK.out ?_; simp only [Array.toArray_toList]))
  refine (CW.out _).mono ?_
  rintro e w2 ⟨rfl, gg⟩
  have G2 := grew_trans G0 gg
  have y1 := z1.grew gg
  have y2 := z2.grew gg
  have c2 : w2.cell? ⟨w.heap.size + 1, 2, none⟩ = some (.int .i64 at_) := by simpa using y2.cell 2 _ rfl
  clear hm z1 z2 gg CW G0
  have M1 : Hid (∀ y : Gr w2, y.val.rangeAt w.heap.size 0 (kyS f RA R.length Rc h).toList) := Lib.hid (fun y => (y1.gr y).cell)
  have M2 : Hid (∀ y : Gr w2, y.val.rangeAt (w.heap.size + 1) 3 (sgC sw lf s (.slice A l.length c)).toList) := Lib.hid (fun y => st_sig (y2.gr y).cell)
  have RR : Hid (∀ y : Gr w2, Rd y.val y.val.heap.size RA (u64L R)) := Lib.hid (fun y => (HRR.out.gr G2).gr y.ok)
  have RL : Hid (∀ y : Gr w2, Rd y.val y.val.heap.size A (u64L l)) := Lib.hid (fun y => (HLL.out.gr G2).gr y.ok)
  have q0 : ∀ y : Gr w2, y.val.cell? ⟨w.heap.size + 1, 0, none⟩ = some (.int .u64 (cm : Nat)) := fun y => by simpa using (y2.gr y).cell 0 _ rfl
  have q1 : ∀ y : Gr w2, y.val.cell? ⟨w.heap.size + 1, 1, none⟩ = some (.int .i64 (n : Int)) := fun y => by simpa using (y2.gr y).cell 1 _ rfl
  have q2 : ∀ y : Gr w2, y.val.cell? ⟨w.heap.size + 1, 2, none⟩ = some (.int .i64 at_) := fun y => by simpa using (y2.gr y).cell 2 _ rfl
  clear y1 y2 HRR HLL
  go_wp2_with fail
  clear c2
  refine wp_region_grew (grew_refl w2) (by kernel_rfl) (by kernel_rfl) ?_
  repeat (first
    | (go_big_quiet_want; refine quiet_load_mid 24 (.tmp 2) rfl w.heap.size 0 rfl (kyS f RA R.length Rc h).toList _ M1.out huk rfl HSK.out ?_; simp only [Act.put, List.setIfInBounds_toArray, List.set_cons_succ, List.set_cons_zero, Array.toArray_toList]; go_big_quiet_on)
    | (go_big_quiet_want; refine quiet_load_mid 28 (.tmp 23) rfl (w.heap.size + 1) 3 rfl (sgC sw lf s (.slice A l.length c)).toList _ M2.out hug rfl HSG.out ?_; simp only [Act.put, List.setIfInBounds_toArray, List.set_cons_succ, List.set_cons_zero, Array.toArray_toList]; go_big_quiet_on)
    | (go_big_quiet_step (first
      | (go_at_call 21; exact callG (CD.out _))
      | (go_at_call 84; exact callG (CS.out _ (RR.out _) (RL.out _))))))
  refine wpQuiet_nil ?_
  rintro w8 ⟨⟨w8', g8⟩, rfl⟩
  cases bk
  · have HK : Hid (ck = 7) := Lib.hid (by
      rcases H07.out with hk | hk
      · have := HBK.out; simp [hk] at this
      · exact hk)
    clear HBK
    go_wp2_with fail
    go_ret
    exact ⟨by rw [HE.out, HK.out]; rfl, grew_trans G2 g8⟩
  · have HK : Hid (ck = 0) := Lib.hid (of_decide_eq_true HBK.out)
    clear HBK
    go_wp2_with fail
    go_ret
    exact ⟨by rw [HE.out, HK.out]; rfl, grew_trans G2 g8⟩
end Go.Proofs.YtaeopobofmpioaaGreatDoor

namespace Go.Proofs.YtaeopobofmpioaaGreatDoor
set_option linter.unusedSimpArgs false
set_option linter.unusedVariables false
open Go.RowKit
set_option linter.unusedVariables false
set_option linter.unusedSimpArgs false
theorem stC_cm (a b : Nat) (who at_ sw lf : Int) (s : Nat → Nat) (pv : Value) : (stC a who at_ sw lf s pv).toList.set 0 (.int .u64 (b : Nat)) = (stC b who at_ sw lf s pv).toList := rfl
theorem put_ky (W : World) (cs : Array Value) (h : cs.size = 3) : ∃ W', (W.alloc (.cells (#[.int .i64 0, .slice none 0 0, .int .i64 0]) 36)).setCells W.heap.size 0 cs.toList = W' ∧ (W.alloc (.cells (#[.int .i64 0, .slice none 0 0, .int .i64 0]) 36)).there W.heap.size 0 cs.size ∧ Grew W W' ∧ Ag W' W.heap.size cs.toList :=
  ⟨_, rfl, by rw [h]; exact (Ag.new W 36 (#[.int .i64 0, .slice none 0 0, .int .i64 0])).thereN 3 rfl, setCells_grew (o := 0) (b := W.heap.size) cs.toList (grew_alloc (grew_refl W) _) (Nat.le_refl _), Ag.set (vs := cs.toList) (Ag.new W 36 (#[.int .i64 0, .slice none 0 0, .int .i64 0])) (by simp [h])⟩
theorem va_no (R : List Nat) (h : Int) (cm m n : Nat) (at_ lf : Int) (s : Nat → Nat) (l : List Nat) (hm : m < 4) (hn : m ≠ n) (ht : tmB at_ = true) (hR : R.length = 4) : vaE 1 R h cm (m : Int) at_ (n : Int) lf s l = 7 := by
  unfold vaE ckE
  rw [if_neg (by omega), if_neg (by omega), if_pos ht, if_neg (by omega), if_neg (by omega)]
set_option maxRecDepth 100000 in
set_option maxHeartbeats 12000000 in
theorem stampHolds_law (seed : Int) (hsd : U64 seed) (who : Int) (hwh : 0 ≤ who ∧ who ≤ 255) (cm : Nat) (hcm : cm < 18446744073709551616) (at_ other : Int) (hat : in64 at_) (hot : in64 other) (w : World) (hS : Std w) :
    Calls Tryz.prog 5 #[.int .u64 seed, .int .u8 who, .int .u64 (cm : Nat), .int .i64 at_, .int .i64 other] w fun e w' => e = .returned (.bool true) ∧ Grew w w' := by
  have HS := Lib.hid hS
  have CK := Lib.hid (sknown_ok w hS)
  have CE := Lib.hid (fun W => keys_ok seed hsd 2 (by omega) W)
  have hkt := Tryz.underlying36
  have hut := Tryz.underlying44
  have hsl := Tryz.underlying66
  obtain ⟨m, hm, hm4⟩ : ∃ m : Nat, who % 4 = (m : Int) ∧ m < 4 := ⟨(who % 4).toNat, by omega, by omega⟩
  have HAT := Lib.hid hat
  have HOT := Lib.hid hot
  have HCM := Lib.hid hcm
  clear hS hsd hat hot hcm
  go_enter Tryz.func5, Tryz.ntmps5
  go_wp2_with fail
  refine CK.out.mono ?_
  rintro e w0 ⟨rfl, G0⟩
  clear CK
  have CE2 := CE.out w0
  rw [show ((2 : Nat) : Int) = 2 from rfl] at CE2
  go_wp2_with fail
  refine CE2.mono ?_
  clear CE CE2
  rintro e w1 ⟨LA, Lc, RA, Rc, p, rfl, KS, rL, rR, FL0, FR0, gg⟩
  have G1 := grew_trans G0 gg
  obtain ⟨lad, hLA, -, -⟩ := rL 0 (by simp [ptrL])
  subst hLA
  have hnil : ∀ W, (binOp .eql 66 (.slice (some lad) 4 Lc) (.slice none 0 0)).run Tryz.prog W = .ok (.bool false) W := fun W => by
    unfold binOp
    simp [run_equal_slice_nil W _ _ (some lad) 4 Lc hsl]
  have hB := G0.size
  obtain ⟨w2, hw2, ht2, g2, z2⟩ := put_ky w1 (kyS 1 RA 4 Rc 2) rfl
  have HW2 := Lib.hid hw2
  have HTK := Lib.hid ht2
  have HSK : Hid ((Tryz.prog.info? 36).map (·.size) = some (kyS 1 RA 4 Rc 2).size) := Lib.hid (by kernel_rfl)
  have HSKL : Hid ((Tryz.prog.info? 36).map (·.size) = some (kyS 1 RA 4 Rc 2).toList.length) := Lib.hid (by kernel_rfl)
  have HOK := Lib.hid (kyS_one 1 2 RA 4 Rc)
  have KS2 := KS.grew g2
  have rL2 := rL.gr g2
  have rR2 := rR.gr g2
  have G2 := grew_trans G1 g2
  have hpq : p m + 1 < w1.heap.size := (KS.key m hm4).key.lt
  have hwp0 : w.heap.size ≤ p m + 1 := by have := KS.low m hm4; omega
  clear hw2 ht2 g2 KS rL rR G1 gg G0 hB
  have hc2 : w2.cell? (lad.add m) = some (.pointer (some ⟨p m + 1, 0, none⟩)) := by
    obtain ⟨ad, e, _, hc⟩ := rL2 m (by simp [ptrL]; omega)
    cases e
    rw [hc]
    simp [ptrL]
  have HKC := Lib.hid (rfl : kyS 1 RA 4 Rc 2 = kyS 1 RA 4 Rc 2)
  have K2 := KS2.key m hm4
  rw [show (2 : Nat) ^ 2 = 4 from rfl] at K2
  have FL : Hid (lad.block ≠ p m + 1) := Lib.hid (FL0 lad rfl m hm4).2
  have FR : Hid (∀ ad, RA = some ad → ad.block ≠ p m + 1) := Lib.hid (fun ad e => (FR0 ad e m hm4).2)
  clear FL0 FR0 KS2 rL2
  obtain ⟨pm, hpm⟩ : ∃ q, p m = q := ⟨_, rfl⟩
  rw [hpm] at K2 FL FR hc2 hpq hwp0
  clear hpm
  have hm0 : (0 : Int) ≤ (m : Int) := by omega
  have hm4' : (m : Int) < 4 := by omega
  go_wp2_with (with_reducible refine wpList_store_mid rfl 36 (.tmp 12) (.tmp 25) rfl w1.heap.size 0 (kyS 1 RA 4 Rc 2) rfl rfl HTK.out HSK.out HOK.out ?_; rw [HW2.out]; clear HW2 HTK)
  cases hT : tmB at_ with
  | false =>
    refine (stmake_no (.pointer (some ⟨pm + 1, 0, none⟩)) cm (m : Int) at_ hT w2).mono ?_
    rintro e w3 ⟨rfl, gg⟩
    obtain ⟨v3, hv3, th3, gs3, z3⟩ := put_st w3 (#[.int .u64 0, .int .i64 0, .int .i64 0, .int .i64 0, .int .i64 0, .int .u64 0, .int .u64 0, .int .u64 0, .int .u64 0, .int .u64 0, .int .u64 0, .int .u64 0, .int .u64 0, .int .u64 0, .int .u64 0, .int .u64 0, .int .u64 0, .int .u64 0, .int .u64 0, .int .u64 0, .int .u64 0, .int .u64 0, .int .u64 0, .slice none 0 0]) rfl
    have HV3 := Lib.hid hv3
    have TH3 := Lib.hid th3
    have HSZ : Hid ((Tryz.prog.info? 44).map (·.size) = some (#[.int .u64 0, .int .i64 0, .int .i64 0, .int .i64 0, .int .i64 0, .int .u64 0, .int .u64 0, .int .u64 0, .int .u64 0, .int .u64 0, .int .u64 0, .int .u64 0, .int .u64 0, .int .u64 0, .int .u64 0, .int .u64 0, .int .u64 0, .int .u64 0, .int .u64 0, .int .u64 0, .int .u64 0, .int .u64 0, .int .u64 0, .slice none 0 0] : Array Value).size) := Lib.hid st_info
    have HOZ : Hid ((#[.int .u64 0, .int .i64 0, .int .i64 0, .int .i64 0, .int .i64 0, .int .u64 0, .int .u64 0, .int .u64 0, .int .u64 0, .int .u64 0, .int .u64 0, .int .u64 0, .int .u64 0, .int .u64 0, .int .u64 0, .int .u64 0, .int .u64 0, .int .u64 0, .int .u64 0, .int .u64 0, .int .u64 0, .int .u64 0, .int .u64 0, .slice none 0 0] : Array Value).all (·.oneCell') = true) := Lib.hid (by simp [Value.oneCell'])
    have G3 := grew_trans G2 (grew_trans gg gs3)
    clear hv3 th3 gs3 z3 gg z2 K2 hc2 rR2 G2
    have hT' := of_decide_eq_false hT
    rcases (show at_ < 1 ∨ (¬ at_ < 1 ∧ 1099511627776 < at_) by omega) with t | ⟨t, t'⟩
    · have t0 : decide (at_ < 1) = true := decide_eq_true t
      clear hT hT' t
      go_wp2_with (with_reducible refine wpList_store_mid rfl 44 (.tmp 14) (.tmp 45) rfl w3.heap.size 0 (#[.int .u64 0, .int .i64 0, .int .i64 0, .int .i64 0, .int .i64 0, .int .u64 0, .int .u64 0, .int .u64 0, .int .u64 0, .int .u64 0, .int .u64 0, .int .u64 0, .int .u64 0, .int .u64 0, .int .u64 0, .int .u64 0, .int .u64 0, .int .u64 0, .int .u64 0, .int .u64 0, .int .u64 0, .int .u64 0, .int .u64 0, .slice none 0 0]) rfl rfl TH3.out HSZ.out HOZ.out ?_; rw [HV3.out])
      go_ret
      exact ⟨rfl, G3⟩
    · have t0 : decide (at_ < 1) = false := decide_eq_false t
      have t1 : decide (1099511627776 < at_) = true := decide_eq_true t'
      clear hT hT' t t'
      go_wp2_with (with_reducible refine wpList_store_mid rfl 44 (.tmp 14) (.tmp 45) rfl w3.heap.size 0 (#[.int .u64 0, .int .i64 0, .int .i64 0, .int .i64 0, .int .i64 0, .int .u64 0, .int .u64 0, .int .u64 0, .int .u64 0, .int .u64 0, .int .u64 0, .int .u64 0, .int .u64 0, .int .u64 0, .int .u64 0, .int .u64 0, .int .u64 0, .int .u64 0, .int .u64 0, .int .u64 0, .int .u64 0, .int .u64 0, .int .u64 0, .slice none 0 0]) rfl rfl TH3.out HSZ.out HOZ.out ?_; rw [HV3.out])
      go_ret
      exact ⟨rfl, G3⟩
  | true =>
    have hL4 : (ksL seed 2 m).length = 4 := pubsL_length _ _
    have HKL := Lib.hid hL4
    refine (stmake_ok (pm + 1) pm (m : Int) (sdI seed m) (ksL seed 2 m) 0 4 (by omega) (by omega) (by omega) (by rw [hL4]; decide) (pubsL_lt _ _) (sdI_u64 _ _) (fun j hj => by unfold ksL; rw [path_len _ 2 (by omega) j (by rw [hL4] at hj; exact hj)]; omega) cm HCM.out (m : Int) at_ ⟨by omega, by omega⟩ HAT.out hT (by omega) (by omega) w2 (HS.out.grew G2) K2).mono ?_
    rintro e w3 ⟨⟨A1, c1, rfl, r3, hA1⟩, T3, K3⟩
    have zk3 := z2.kp (kp_tn T3) (show ¬ w1.heap.size = pm + 1 by omega)
    have rR3 := (rR2.kp (kp_tn T3) (Nat.le_refl _) (fun ad e _ (h : ad.block = pm + 1) => FR.out ad e h)).more T3.size
    have G3 := grew_tn G2 T3 hwp0
    have hpl : (pathN (ksL seed 2 m) 0).length = 2 := by unfold ksL; exact path_len _ 2 (by omega) 0 (by decide)
    have HVA : Hid (vaE 1 (rtL seed 2 4) 2 cm (m : Int) at_ (m : Int) 0 (signF (secN (sdI seed m) ((0 : Nat) : Int)) (stD cm (m : Int) at_)) (pathN (ksL seed 2 m) 0) = 0) := Lib.hid (va_yes seed 2 (by omega) m 0 hm4 (by omega) cm at_ hT)
    have HPB : Hid (∀ x ∈ pathN (ksL seed 2 m) 0, x < 18446744073709551616) := Lib.hid (pathN_lt _ 0 (pubsL_lt _ _))
    have HSF : Hid (∀ k, k < 18 → signF (secN (sdI seed m) ((0 : Nat) : Int)) (stD cm (m : Int) at_) k < 18446744073709551616) := Lib.hid (fun k hk => signF_lt _ _ _ (secN_lt _ _ _))
    have hRl : (rtL seed 2 4).length = 4 := rt_len _ _ _
    have HRB : Hid (∀ x ∈ rtL seed 2 4, x < 18446744073709551616) := Lib.hid (rt_lt _ _ _ (by omega))
    clear z2 K2 K3 rR2 G2 T3 hc2 FL FR hwp0 hpq hL4 HKL hA1
    generalize signF (secN (sdI seed m) ((0 : Nat) : Int)) (stD cm (m : Int) at_) = sF at *
    generalize pathN (ksL seed 2 m) 0 = pl at *
    generalize rtL seed 2 4 = R at *
    obtain ⟨gs, hgs⟩ : ∃ g, stC cm (m : Int) at_ (m : Int) ((0 : Nat) : Int) sF (.slice A1 pl.length c1) = g := ⟨_, rfl⟩
    have HGS := Lib.hid hgs
    have HZS : Hid (gs.size = 24) := Lib.hid (by rw [← hgs]; rfl)
    have HSS1 : Hid ((Tryz.prog.info? 44).map (·.size) = some gs.size) := Lib.hid (by rw [← hgs]; exact st_info)
    have HSL1 : Hid ((Tryz.prog.info? 44).map (·.size) = some gs.toList.length) := Lib.hid (by rw [← hgs]; exact st_info)
    have HOS1 : Hid (gs.all (·.oneCell') = true) := Lib.hid (by rw [← hgs]; exact stC_one _ _ _ _ _ _ A1 _ c1)
    have HG0 : Hid (gs.toList[0]? = some (.int .u64 (cm : Nat))) := Lib.hid (by rw [← hgs]; rfl)
    have HG1 : Hid (gs.toList[1]? = some (.int .i64 (m : Int))) := Lib.hid (by rw [← hgs]; rfl)
    have HG2 : Hid (gs.toList[2]? = some (.int .i64 at_)) := Lib.hid (by rw [← hgs]; rfl)
    have CV := stvalid_ok 1 (by omega) R RA Rc 2 cm (m : Int) at_ (m : Int) ((0 : Nat) : Int) sF A1 c1 pl HCM.out ⟨by omega, by omega⟩ HAT.out ⟨by omega, by omega⟩ ⟨by omega, by omega⟩ (by omega) HSF.out HPB.out (by omega) HRB.out
    rw [hgs, hRl, show vaE 1 R 2 cm (m : Int) at_ (m : Int) ((0 : Nat) : Int) sF pl = 0 from HVA.out] at CV
    rw [hgs]
    clear hgs HVA
    obtain ⟨v3, hv3, th3, gs3, zs3⟩ := put_st w3 gs HZS.out
    have HV3 := Lib.hid hv3
    have TH3 := Lib.hid th3
    have zk3 := zk3.grew gs3
    have rR3 := rR3.gr gs3
    have r3 := r3.gr gs3
    have G3 := grew_trans G3 gs3
    have hmk := zk3.cell
    have hms := zs3.cell
    have hT' := of_decide_eq_true hT
    have t0 : decide (at_ < 1) = false := decide_eq_false (by omega)
    have t1 : decide (1099511627776 < at_) = false := decide_eq_false (by omega)
    clear hv3 th3 gs3 hT'
    go_wp2_with (first
      | (with_reducible refine wpList_store_mid rfl 44 (.tmp 14) (.tmp 45) rfl w3.heap.size 0 gs rfl rfl TH3.out HSS1.out HOS1.out ?_; rw [HV3.out])
      | (refine wpList_load_mid_want (by rfl) 36 (.tmp 12) rfl w1.heap.size 0 rfl (kyS 1 RA 4 Rc 2).toList _ hmk hkt rfl HSKL.out ?_; simp only [Array.toArray_toList])
      | (refine wpList_load_mid_want (by rfl) 44 (.tmp 14) rfl w3.heap.size 0 rfl gs.toList _ hms hut rfl HSL1.out ?_; simp only [Array.toArray_toList]))
    refine (CV v3 (HS.out.grew G3) rR3 r3).mono ?_
    rintro e w4 ⟨rfl, gg⟩
    have zk4 := zk3.grew gg
    have zs4 := zs3.grew gg
    have rR4 := rR3.gr gg
    have r4 := r3.gr gg
    have G4 := grew_trans G3 gg
    clear HV3 TH3 hmk hms CV zk3 zs3 rR3 r3 G3 gg t0 t1
    obtain ⟨cu, hcu, hcu64⟩ : ∃ cu : Nat, IntKind.u64.wrap ((cm : Int) + 1) = (cu : Int) ∧ cu < 18446744073709551616 := by
      refine ⟨((cm + 1) % 18446744073709551616), ?_, Nat.mod_lt _ (by omega)⟩
      simp [IntKind.wrap, IntKind.bits, IntKind.signed]
    obtain ⟨mv, hmv, hmv4, hmne⟩ : ∃ mv : Nat, ((m : Int) + 1) % 4 = (mv : Int) ∧ mv < 4 ∧ mv ≠ m := ⟨(m + 1) % 4, by omega, by omega, by omega⟩
    have ew : IntKind.i64.wrap ((m : Int) + 1) = (m : Int) + 1 := IntWalk.i64_in _ (by omega)
    obtain ⟨v5, hv5, th5, gs5, z5⟩ := put_st w4 gs HZS.out
    have HV5 := Lib.hid hv5
    have TH5 := Lib.hid th5
    have hm5 := zs4.cell
    have zk5 := zk4.grew gs5
    have zs5 := zs4.grew gs5
    have rR5 := rR4.gr gs5
    have r5 := r4.gr gs5
    have G5 := grew_trans G4 gs5
    have cc5 : v5.cell? ⟨w4.heap.size, 2, none⟩ = some (.int .i64 at_) := by simpa using z5.cell 2 _ HG2.out
    have fc5 : v5.frozen? ⟨w4.heap.size, 2, none⟩ = false := by simpa using (z5.there 2 (by rw [Array.length_toList, HZS.out]; omega)).2
    have y5 := z5.set1 2 (.int .i64 other) (by rw [Array.length_toList, HZS.out]; omega)
    rw [← HGS.out, stC_at] at y5
    have K5 := setCells_kp [.int .i64 other] w4.heap.size 2 v5
    rw [show v5.setCells w4.heap.size 2 [.int .i64 other] = v5.setCell ⟨w4.heap.size, 2, none⟩ (.int .i64 other) from rfl] at K5
    have g5 : Grew w (v5.setCell ⟨w4.heap.size, 2, none⟩ (.int .i64 other)) := setCells_grew (o := 2) (b := w4.heap.size) [.int .i64 other] G5 (by have := G4.size; omega)
    have zk5 := zk5.kp K5 (by have := zk4.lt; omega)
    have zs5 := zs5.kp K5 (by have := zs4.lt; omega)
    have rR5 := (rR5.kp K5 (Nat.le_refl _) (fun ad e _ (h : ad.block = w4.heap.size) => by
      obtain ⟨ad', e', hlt, _⟩ := rR4 0 (by simp [u64L, hRl])
      rw [e] at e'; injection e' with e'; subst e'; omega)).more K5.size
    have r5 := (r5.kp K5 (Nat.le_refl _) (fun ad e _ (h : ad.block = w4.heap.size) => by
      obtain ⟨ad', e', hlt, _⟩ := r4 0 (by simp [u64L, hpl])
      rw [e] at e'; injection e' with e'; subst e'; omega)).more K5.size
    go_upto_region 14 with (first
      | (with_reducible refine wpList_load_mid rfl 44 (.tmp 14) rfl w3.heap.size 0 rfl gs.toList _ hm5 hut rfl HSL1.out ?_; simp only [Array.toArray_toList])
      | (with_reducible refine wpList_store_mid rfl 44 (.tmp 16) (.tmp 63) rfl w4.heap.size 0 gs rfl rfl TH5.out HSS1.out HOS1.out ?_; rw [HV5.out]))
    clear HV5 TH5 hm5 cc5 fc5 K5 z5 gs5 G5 zk4 zs4 rR4 r4 G4
    obtain ⟨x5, hx5⟩ : ∃ v, v5.setCell ⟨w4.heap.size, 2, none⟩ (.int .i64 other) = v := ⟨_, rfl⟩
    rw [hx5] at y5 zk5 zs5 rR5 r5 g5 ⊢
    clear hx5
    have G5 := g5
    clear g5
    obtain ⟨v6, hv6, th6, gs6, z6⟩ := put_st x5 gs HZS.out
    have HV6 := Lib.hid hv6
    have TH6 := Lib.hid th6
    have hm6 := zs5.cell
    have zk6 := zk5.grew gs6
    have zs6 := zs5.grew gs6
    have rR6 := rR5.gr gs6
    have r6 := r5.gr gs6
    have G6 := grew_trans G5 gs6
    have y5_lt := y5.lt
    have y5 := y5.grew gs6
    have cc6 : v6.cell? ⟨x5.heap.size, 0, none⟩ = some (.int .u64 (cm : Nat)) := by simpa using z6.cell 0 _ HG0.out
    have fc6 : v6.frozen? ⟨x5.heap.size, 0, none⟩ = false := by simpa using (z6.there 0 (by rw [Array.length_toList, HZS.out]; omega)).2
    have y6 := z6.set1 0 (.int .u64 (cu : Nat)) (by rw [Array.length_toList, HZS.out]; omega)
    rw [← HGS.out, stC_cm] at y6
    have K6 := setCells_kp [.int .u64 (cu : Nat)] x5.heap.size 0 v6
    rw [show v6.setCells x5.heap.size 0 [.int .u64 (cu : Nat)] = v6.setCell ⟨x5.heap.size, 0, none⟩ (.int .u64 (cu : Nat)) from rfl] at K6
    have g6 : Grew w (v6.setCell ⟨x5.heap.size, 0, none⟩ (.int .u64 (cu : Nat))) := setCells_grew (o := 0) (b := x5.heap.size) [.int .u64 (cu : Nat)] G6 (by have := G5.size; omega)
    have zk6 := zk6.kp K6 (by have := zk5.lt; omega)
    have zs6 := zs6.kp K6 (by have := zs5.lt; omega)
    have rR6 := (rR6.kp K6 (Nat.le_refl _) (fun ad e _ (h : ad.block = x5.heap.size) => by
      obtain ⟨ad', e', hlt, _⟩ := rR5 0 (by simp [u64L, hRl])
      rw [e] at e'; injection e' with e'; subst e'; omega)).more K6.size
    have r6 := (r6.kp K6 (Nat.le_refl _) (fun ad e _ (h : ad.block = x5.heap.size) => by
      obtain ⟨ad', e', hlt, _⟩ := r5 0 (by simp [u64L, hpl])
      rw [e] at e'; injection e' with e'; subst e'; omega)).more K6.size
    have y5 := y5.kp K6 (by have := y5_lt; omega)
    go_upto_region 16 with (first
      | (with_reducible refine wpList_load_mid rfl 44 (.tmp 14) rfl w3.heap.size 0 rfl gs.toList _ hm6 hut rfl HSL1.out ?_; simp only [Array.toArray_toList])
      | (with_reducible refine wpList_store_mid rfl 44 (.tmp 17) (.tmp 66) rfl x5.heap.size 0 gs rfl rfl TH6.out HSS1.out HOS1.out ?_; rw [HV6.out]))
    clear HV6 TH6 hm6 cc6 fc6 K6 z6 gs6 G6 zk5 zs5 rR5 r5 G5 y5_lt
    obtain ⟨x6, hx6⟩ : ∃ v, v6.setCell ⟨x5.heap.size, 0, none⟩ (.int .u64 (cu : Nat)) = v := ⟨_, rfl⟩
    rw [hx6] at y6 zk6 zs6 rR6 r6 g6 y5 ⊢
    clear hx6
    have G6 := g6
    clear g6
    obtain ⟨v7, hv7, th7, gs7, z7⟩ := put_st x6 gs HZS.out
    have HV7 := Lib.hid hv7
    have TH7 := Lib.hid th7
    have hm7 := zs6.cell
    have zk7 := zk6.grew gs7
    have zs7 := zs6.grew gs7
    have rR7 := rR6.gr gs7
    have r7 := r6.gr gs7
    have G7 := grew_trans G6 gs7
    have y5_lt := y5.lt
    have y6_lt := y6.lt
    have y5 := y5.grew gs7
    have y6 := y6.grew gs7
    have cc7 : v7.cell? ⟨x6.heap.size, 1, none⟩ = some (.int .i64 (m : Int)) := by simpa using z7.cell 1 _ HG1.out
    have fc7 : v7.frozen? ⟨x6.heap.size, 1, none⟩ = false := by simpa using (z7.there 1 (by rw [Array.length_toList, HZS.out]; omega)).2
    have y7 := z7.set1 1 (.int .i64 (mv : Int)) (by rw [Array.length_toList, HZS.out]; omega)
    rw [← HGS.out, stC_who] at y7
    have K7 := setCells_kp [.int .i64 (mv : Int)] x6.heap.size 1 v7
    rw [show v7.setCells x6.heap.size 1 [.int .i64 (mv : Int)] = v7.setCell ⟨x6.heap.size, 1, none⟩ (.int .i64 (mv : Int)) from rfl] at K7
    have g7 : Grew w (v7.setCell ⟨x6.heap.size, 1, none⟩ (.int .i64 (mv : Int))) := setCells_grew (o := 1) (b := x6.heap.size) [.int .i64 (mv : Int)] G7 (by have := G6.size; omega)
    have zk7 := zk7.kp K7 (by have := zk6.lt; omega)
    have zs7 := zs7.kp K7 (by have := zs6.lt; omega)
    have rR7 := (rR7.kp K7 (Nat.le_refl _) (fun ad e _ (h : ad.block = x6.heap.size) => by
      obtain ⟨ad', e', hlt, _⟩ := rR6 0 (by simp [u64L, hRl])
      rw [e] at e'; injection e' with e'; subst e'; omega)).more K7.size
    have r7 := (r7.kp K7 (Nat.le_refl _) (fun ad e _ (h : ad.block = x6.heap.size) => by
      obtain ⟨ad', e', hlt, _⟩ := r6 0 (by simp [u64L, hpl])
      rw [e] at e'; injection e' with e'; subst e'; omega)).more K7.size
    have y5 := y5.kp K7 (by have := y5_lt; omega)
    have y6 := y6.kp K7 (by have := y6_lt; omega)
    go_upto_region 18 with (first
      | (with_reducible refine wpList_load_mid rfl 44 (.tmp 14) rfl w3.heap.size 0 rfl gs.toList _ hm7 hut rfl HSL1.out ?_; simp only [Array.toArray_toList])
      | (with_reducible refine wpList_store_mid rfl 44 (.tmp 18) (.tmp 70) rfl x6.heap.size 0 gs rfl rfl TH7.out HSS1.out HOS1.out ?_; rw [HV7.out]))
    clear HV7 TH7 hm7 cc7 fc7 K7 z7 gs7 G7 zk6 zs6 rR6 r6 G6 y5_lt y6_lt
    obtain ⟨x7, hx7⟩ : ∃ v, v7.setCell ⟨x6.heap.size, 1, none⟩ (.int .i64 (mv : Int)) = v := ⟨_, rfl⟩
    rw [hx7] at y7 zk7 zs7 rR7 r7 g7 y5 y6 ⊢
    clear hx7
    have G7 := g7
    clear g7
    have CV5 := Lib.hid (stvalid_ok 1 (by omega) R RA Rc 2 cm (m : Int) other (m : Int) ((0 : Nat) : Int) sF A1 c1 pl HCM.out ⟨by omega, by omega⟩ HOT.out ⟨by omega, by omega⟩ ⟨by omega, by omega⟩ (by omega) HSF.out HPB.out (by omega) HRB.out)
    have CV6 := Lib.hid (stvalid_ok 1 (by omega) R RA Rc 2 cu (m : Int) at_ (m : Int) ((0 : Nat) : Int) sF A1 c1 pl hcu64 ⟨by omega, by omega⟩ HAT.out ⟨by omega, by omega⟩ ⟨by omega, by omega⟩ (by omega) HSF.out HPB.out (by omega) HRB.out)
    have CV7 := Lib.hid (stvalid_ok 1 (by omega) R RA Rc 2 cm (mv : Int) at_ (m : Int) ((0 : Nat) : Int) sF A1 c1 pl HCM.out ⟨by omega, by omega⟩ HAT.out ⟨by omega, by omega⟩ ⟨by omega, by omega⟩ (by omega) HSF.out HPB.out (by omega) HRB.out)
    have CR5 := Lib.hid (fun A2 c2 A3 c3 W h1 h2 => rstvalid_ok 1 (by omega) R A2 c2 2 cm (m : Int) other (m : Int) ((0 : Nat) : Int) sF A3 c3 pl HCM.out ⟨by omega, by omega⟩ HOT.out ⟨by omega, by omega⟩ ⟨by omega, by omega⟩ (by omega) HSF.out HPB.out (by omega) W h1 h2)
    have CR6 := Lib.hid (fun A2 c2 A3 c3 W h1 h2 => rstvalid_ok 1 (by omega) R A2 c2 2 cu (m : Int) at_ (m : Int) ((0 : Nat) : Int) sF A3 c3 pl hcu64 ⟨by omega, by omega⟩ HAT.out ⟨by omega, by omega⟩ ⟨by omega, by omega⟩ (by omega) HSF.out HPB.out (by omega) W h1 h2)
    have CO5 := Lib.hid (fun W hR => stof_ok cm (m : Int) other (m : Int) ((0 : Nat) : Int) sF A1 c1 pl (by omega) W hR)
    have CO6 := Lib.hid (fun W hR => stof_ok cu (m : Int) at_ (m : Int) ((0 : Nat) : Int) sF A1 c1 pl (by omega) W hR)
    have CKK := Lib.hid (fun W hR => ofkeys_ok 1 R RA Rc 2 (by omega) W hR)
    rw [va_no R 2 cm mv m at_ ((0 : Nat) : Int) sF pl hmv4 hmne hT hRl] at CV7
    have SL5 : Hid ((Tryz.prog.info? 44).map (·.size) = some (stC cm (m : Int) other (m : Int) ((0 : Nat) : Int) sF (.slice A1 pl.length c1)).toList.length) := Lib.hid st_info
    have SL6 : Hid ((Tryz.prog.info? 44).map (·.size) = some (stC cu (m : Int) at_ (m : Int) ((0 : Nat) : Int) sF (.slice A1 pl.length c1)).toList.length) := Lib.hid st_info
    have SL7 : Hid ((Tryz.prog.info? 44).map (·.size) = some (stC cm (mv : Int) at_ (m : Int) ((0 : Nat) : Int) sF (.slice A1 pl.length c1)).toList.length) := Lib.hid st_info
    have hky : kyS 1 RA R.length Rc 2 = kyS 1 RA 4 Rc 2 := by rw [hRl]
    rw [hky] at CV5 CV6 CV7 CKK
    clear hky HGS HZS HSS1 HSL1 HOS1 HG0 HG1 HG2 HSF HPB HRB HAT HOT HCM hcu hcu64 hmv hmv4 hmne ew zs7 hpl hT hm hm0 hm4' hRl
    generalize vaE 1 R 2 cm (m : Int) other (m : Int) ((0 : Nat) : Int) sF pl = vT at *
    generalize vaE 1 R 2 cu (m : Int) at_ (m : Int) ((0 : Nat) : Int) sF pl = vU at *
    have HKY := Lib.hid zk7
    have HY5 := Lib.hid y5
    have HY6 := Lib.hid y6
    have HY7 := Lib.hid y7
    clear zk7 y5 y6 y7
    generalize stC cm (m : Int) other (m : Int) ((0 : Nat) : Int) sF (.slice A1 pl.length c1) = g5 at *
    generalize stC cu (m : Int) at_ (m : Int) ((0 : Nat) : Int) sF (.slice A1 pl.length c1) = g6 at *
    generalize stC cm (mv : Int) at_ (m : Int) ((0 : Nat) : Int) sF (.slice A1 pl.length c1) = g7 at *
    generalize kyS 1 RA 4 Rc 2 = ky at *
    have HMK := Lib.hid (fun y (g : Grew x7 y) => (HKY.out.grew g).cell)
    have HM5 := Lib.hid (fun y (g : Grew x7 y) => (HY5.out.grew g).cell)
    have HM6 := Lib.hid (fun y (g : Grew x7 y) => (HY6.out.grew g).cell)
    have HM7 := Lib.hid (fun y (g : Grew x7 y) => (HY7.out.grew g).cell)
    have RRY := Lib.hid (fun y (g : Grew x7 y) => rR7.gr g)
    have RLY := Lib.hid (fun y (g : Grew x7 y) => r7.gr g)
    have SSY := Lib.hid (fun y (g : Grew x7 y) => HS.out.grew (grew_trans G7 g))
    have G8 := Lib.hid G7
    clear rR7 r7 G7
    obtain ⟨bT, eT⟩ : ∃ b, (vT == 0) = b := ⟨_, rfl⟩
    obtain ⟨bU, eU⟩ : ∃ b, (vU == 0) = b := ⟨_, rfl⟩
    have eTT : (bT == bT) = true := by simp
    have eUU : (bU == bU) = true := by simp
    generalize w1.heap.size = pk at *
    generalize w4.heap.size = p5 at *
    generalize x5.heap.size = p6 at *
    generalize x6.heap.size = p7 at *
    refine wp_region_rel 30 (fun i => match i with
        | 0 => fun v _ => v = .agg ky
        | 1 => fun v _ => v = .agg g5
        | 2 => fun v _ => v = .int .i64 vT
        | 3 => fun v _ => v = .bool bT
        | 4 => fun v _ => v = .agg ky
        | 5 => fun v w => KV w 0 1 R 2 v
        | 6 => fun v _ => v = .agg g5
        | 7 => fun v w => AgT w 0 cm (m : Int) other (m : Int) ((0 : Nat) : Int) sF pl v
        | 8 => fun v _ => v = .int .i64 vT
        | 9 => fun v _ => v = .bool bT
        | 10 => fun v _ => v = .bool true
        | 11 => fun v _ => v = .bool true
        | 12 => fun v _ => v = .agg ky
        | 13 => fun v _ => v = .agg g6
        | 14 => fun v _ => v = .int .i64 vU
        | 15 => fun v _ => v = .bool bU
        | 16 => fun v _ => v = .agg ky
        | 17 => fun v w => KV w 0 1 R 2 v
        | 18 => fun v _ => v = .agg g6
        | 19 => fun v w => AgT w 0 cu (m : Int) at_ (m : Int) ((0 : Nat) : Int) sF pl v
        | 20 => fun v _ => v = .int .i64 vU
        | 21 => fun v _ => v = .bool bU
        | 22 => fun v _ => v = .bool true
        | 23 => fun v _ => v = .bool true
        | 24 => fun v _ => v = .bool true
        | 25 => fun v _ => v = .agg ky
        | 26 => fun v _ => v = .agg g7
        | 27 => fun v _ => v = .int .i64 7
        | 28 => fun v _ => v = .bool true
        | 29 => fun v _ => v = .bool true
        | _ => fun _ _ => True) (by kernel_rfl) (by kernel_rfl) ?_ ?_ ?_
    · intro i v x y h hg
      match i, h with
      | 0, h | 1, h | 2, h | 3, h | 4, h | 6, h | 8, h | 9, h | 10, h | 11, h | 12, h | 13, h | 14, h | 15, h | 16, h | 18, h | 20, h | 21, h | 22, h | 23, h | 24, h | 25, h | 26, h | 27, h | 28, h | 29, h => exact h
      | 5, h => exact KV.gr h hg
      | 7, h => exact AgT.gr h hg
      | 17, h => exact KV.gr h hg
      | 19, h => exact AgT.gr h hg
      | m + 30, _ => trivial
    · refine ⟨?_, ?_, ?_, ?_, ?_, ?_, ?_, ?_, ?_, ?_, ?_, ?_, ?_, ?_, ?_, ?_, ?_, ?_, ?_, ?_, ?_, ?_, ?_, ?_, ?_, ?_, ?_, ?_, ?_, ?_, trivial⟩
      · intro vs y hg hd
        simp only [actOf, List.take_succ_cons, List.take_zero, List.drop_succ_cons, List.drop_zero, Act.put, List.setIfInBounds_toArray, List.set_cons_succ, List.set_cons_zero, Nat.reduceAdd]
        have hm := HMK.out y hg
        go_wp2_with (refine wpList_load_mid_want (by rfl) 36 (.tmp 12) rfl pk 0 rfl ky.toList _ hm hkt rfl HSKL.out ?_; simp only [Array.toArray_toList])
        exact ⟨rfl, _, rfl, grew_refl _, rfl⟩
      · intro vs y hg hd
        simp only [actOf, List.take_succ_cons, List.take_zero, List.drop_succ_cons, List.drop_zero, Act.put, List.setIfInBounds_toArray, List.set_cons_succ, List.set_cons_zero, Nat.reduceAdd]
        have hm := HM5.out y hg
        go_wp2_with (refine wpList_load_mid_want (by rfl) 44 (.tmp 16) rfl p5 0 rfl g5.toList _ hm hut rfl SL5.out ?_; simp only [Array.toArray_toList])
        exact ⟨rfl, _, rfl, grew_refl _, rfl⟩
      · intro vs y hg hd
        obtain ⟨h0, h1, _⟩ := hd
        replace h0 := h0 rfl
        replace h1 := h1 rfl
        simp only [actOf, List.take_succ_cons, List.take_zero, List.drop_succ_cons, List.drop_zero, Act.put, List.setIfInBounds_toArray, List.set_cons_succ, List.set_cons_zero, Nat.reduceAdd]
        rw [show vs 0 = _ from h0, show vs 1 = _ from h1]
        go_wp2_with (go_at_call 26; refine (CV5.out y (SSY.out y hg) (RRY.out y hg) (RLY.out y hg)).mono ?_; rintro e z ⟨rfl, gz⟩)
        exact ⟨rfl, _, rfl, gz, rfl⟩
      · intro vs y hg hd
        obtain ⟨h2, _⟩ := hd
        replace h2 := h2 rfl
        simp only [actOf, List.take_succ_cons, List.take_zero, List.drop_succ_cons, List.drop_zero, Act.put, List.setIfInBounds_toArray, List.set_cons_succ, List.set_cons_zero, Nat.reduceAdd]
        rw [show vs 2 = _ from h2]
        go_wp2_with fail
        exact ⟨rfl, _, rfl, grew_refl _, rfl⟩
      · intro vs y hg hd
        simp only [actOf, List.take_succ_cons, List.take_zero, List.drop_succ_cons, List.drop_zero, Act.put, List.setIfInBounds_toArray, List.set_cons_succ, List.set_cons_zero, Nat.reduceAdd]
        have hm := HMK.out y hg
        go_wp2_with (refine wpList_load_mid_want (by rfl) 36 (.tmp 12) rfl pk 0 rfl ky.toList _ hm hkt rfl HSKL.out ?_; simp only [Array.toArray_toList])
        exact ⟨rfl, _, rfl, grew_refl _, rfl⟩
      · intro vs y hg hd
        obtain ⟨h4, _⟩ := hd
        replace h4 := h4 rfl
        simp only [actOf, List.take_succ_cons, List.take_zero, List.drop_succ_cons, List.drop_zero, Act.put, List.setIfInBounds_toArray, List.set_cons_succ, List.set_cons_zero, Nat.reduceAdd]
        rw [show vs 4 = _ from h4]
        go_wp2_with (go_at_call 35; refine (CKK.out y (RRY.out y hg)).mono ?_; rintro e z ⟨A2, c2, rfl, hr2, gz⟩)
        exact ⟨rfl, _, rfl, gz, ⟨A2, c2, rfl, hr2, fun ad h => Nat.zero_le _⟩⟩
      · intro vs y hg hd
        simp only [actOf, List.take_succ_cons, List.take_zero, List.drop_succ_cons, List.drop_zero, Act.put, List.setIfInBounds_toArray, List.set_cons_succ, List.set_cons_zero, Nat.reduceAdd]
        have hm := HM5.out y hg
        go_wp2_with (refine wpList_load_mid_want (by rfl) 44 (.tmp 16) rfl p5 0 rfl g5.toList _ hm hut rfl SL5.out ?_; simp only [Array.toArray_toList])
        exact ⟨rfl, _, rfl, grew_refl _, rfl⟩
      · intro vs y hg hd
        obtain ⟨h6, _⟩ := hd
        replace h6 := h6 rfl
        simp only [actOf, List.take_succ_cons, List.take_zero, List.drop_succ_cons, List.drop_zero, Act.put, List.setIfInBounds_toArray, List.set_cons_succ, List.set_cons_zero, Nat.reduceAdd]
        rw [show vs 6 = _ from h6]
        go_wp2_with (go_at_call 31; refine (CO5.out y (RLY.out y hg)).mono ?_; rintro e z ⟨A3, c3, rfl, hr3, gz, hb3⟩)
        exact ⟨rfl, _, rfl, gz, ⟨A3, c3, rfl, hr3, fun ad h => Nat.zero_le _⟩⟩
      · intro vs y hg hd
        obtain ⟨h5, h7, _⟩ := hd
        replace h5 := h5 rfl
        replace h7 := h7 rfl
        simp only [actOf, List.take_succ_cons, List.take_zero, List.drop_succ_cons, List.drop_zero, Act.put, List.setIfInBounds_toArray, List.set_cons_succ, List.set_cons_zero, Nat.reduceAdd]
        obtain ⟨A2, c2, hv, hr2, hb2⟩ := KV.out h5
        rw [hv]
        obtain ⟨A3, c3, hv3, hr3, hb3⟩ := AgT.out h7
        rw [hv3]
        go_wp2_with (go_at_call 27; refine (CR5.out A2 c2 A3 c3 y hr2 hr3).mono ?_; rintro e z ⟨rfl, gz⟩)
        exact ⟨rfl, _, rfl, gz, rfl⟩
      · intro vs y hg hd
        obtain ⟨h8, _⟩ := hd
        replace h8 := h8 rfl
        simp only [actOf, List.take_succ_cons, List.take_zero, List.drop_succ_cons, List.drop_zero, Act.put, List.setIfInBounds_toArray, List.set_cons_succ, List.set_cons_zero, Nat.reduceAdd]
        rw [show vs 8 = _ from h8]
        go_wp2_with fail
        exact ⟨rfl, _, rfl, grew_refl _, rfl⟩
      · intro vs y hg hd
        obtain ⟨h3, h9, _⟩ := hd
        replace h3 := h3 rfl
        replace h9 := h9 rfl
        simp only [actOf, List.take_succ_cons, List.take_zero, List.drop_succ_cons, List.drop_zero, Act.put, List.setIfInBounds_toArray, List.set_cons_succ, List.set_cons_zero, Nat.reduceAdd]
        rw [show vs 3 = _ from h3, show vs 9 = _ from h9]
        go_wp2_with fail
        exact ⟨rfl, _, rfl, grew_refl _, rfl⟩
      · intro vs y hg hd
        obtain ⟨h10, _⟩ := hd
        replace h10 := h10 rfl
        simp only [actOf, List.take_succ_cons, List.take_zero, List.drop_succ_cons, List.drop_zero, Act.put, List.setIfInBounds_toArray, List.set_cons_succ, List.set_cons_zero, Nat.reduceAdd]
        rw [show vs 10 = _ from h10]
        go_wp2_with fail
        exact ⟨rfl, _, rfl, grew_refl _, rfl⟩
      · intro vs y hg hd
        have hx : (Region.binds .any { on := 11, ground := .guard } = true → vs 11 = .bool true) ∧ True := hd
        have h11 : vs 11 = .bool true := hx.1 rfl
        clear hx
        simp only [actOf, List.take_succ_cons, List.take_zero, List.drop_succ_cons, List.drop_zero, Act.put, List.setIfInBounds_toArray, List.set_cons_succ, List.set_cons_zero, Nat.reduceAdd]
        rw [show vs 11 = _ from h11]
        have hm := HMK.out y hg
        go_wp2_with (refine wpList_load_mid_want (by rfl) 36 (.tmp 12) rfl pk 0 rfl ky.toList _ hm hkt rfl HSKL.out ?_; simp only [Array.toArray_toList])
        exact ⟨rfl, _, rfl, grew_refl _, rfl⟩
      · intro vs y hg hd
        have hx : (Region.binds .any { on := 11, ground := .guard } = true → vs 11 = .bool true) ∧ True := hd
        have h11 : vs 11 = .bool true := hx.1 rfl
        clear hx
        simp only [actOf, List.take_succ_cons, List.take_zero, List.drop_succ_cons, List.drop_zero, Act.put, List.setIfInBounds_toArray, List.set_cons_succ, List.set_cons_zero, Nat.reduceAdd]
        rw [show vs 11 = _ from h11]
        have hm := HM6.out y hg
        go_wp2_with (refine wpList_load_mid_want (by rfl) 44 (.tmp 17) rfl p6 0 rfl g6.toList _ hm hut rfl SL6.out ?_; simp only [Array.toArray_toList])
        exact ⟨rfl, _, rfl, grew_refl _, rfl⟩
      · intro vs y hg hd
        have hx : (Region.binds .any { on := 12, ground := .data } = true → vs 12 = .agg ky) ∧ (Region.binds .any { on := 13, ground := .data } = true → vs 13 = .agg g6) ∧ (Region.binds .any { on := 11, ground := .chain } = true → vs 11 = .bool true) ∧ (Region.binds .any { on := 11, ground := .guard } = true → vs 11 = .bool true) ∧ True := hd
        have h12 : vs 12 = .agg ky := hx.1 rfl
        have h13 : vs 13 = .agg g6 := hx.2.1 rfl
        have h11 : vs 11 = .bool true := hx.2.2.2.1 rfl
        clear hx
        simp only [actOf, List.take_succ_cons, List.take_zero, List.drop_succ_cons, List.drop_zero, Act.put, List.setIfInBounds_toArray, List.set_cons_succ, List.set_cons_zero, Nat.reduceAdd]
        rw [show vs 12 = _ from h12, show vs 13 = _ from h13, show vs 11 = _ from h11]
        go_wp2_with (go_at_call 26; refine (CV6.out y (SSY.out y hg) (RRY.out y hg) (RLY.out y hg)).mono ?_; rintro e z ⟨rfl, gz⟩)
        exact ⟨rfl, _, rfl, gz, rfl⟩
      · intro vs y hg hd
        have hx : (Region.binds .any { on := 14, ground := .data } = true → vs 14 = .int .i64 vU) ∧ (Region.binds .any { on := 11, ground := .guard } = true → vs 11 = .bool true) ∧ True := hd
        have h14 : vs 14 = .int .i64 vU := hx.1 rfl
        have h11 : vs 11 = .bool true := hx.2.1 rfl
        clear hx
        simp only [actOf, List.take_succ_cons, List.take_zero, List.drop_succ_cons, List.drop_zero, Act.put, List.setIfInBounds_toArray, List.set_cons_succ, List.set_cons_zero, Nat.reduceAdd]
        rw [show vs 14 = _ from h14, show vs 11 = _ from h11]
        go_wp2_with fail
        exact ⟨rfl, _, rfl, grew_refl _, rfl⟩
      · intro vs y hg hd
        have hx : (Region.binds .any { on := 11, ground := .guard } = true → vs 11 = .bool true) ∧ True := hd
        have h11 : vs 11 = .bool true := hx.1 rfl
        clear hx
        simp only [actOf, List.take_succ_cons, List.take_zero, List.drop_succ_cons, List.drop_zero, Act.put, List.setIfInBounds_toArray, List.set_cons_succ, List.set_cons_zero, Nat.reduceAdd]
        rw [show vs 11 = _ from h11]
        have hm := HMK.out y hg
        go_wp2_with (refine wpList_load_mid_want (by rfl) 36 (.tmp 12) rfl pk 0 rfl ky.toList _ hm hkt rfl HSKL.out ?_; simp only [Array.toArray_toList])
        exact ⟨rfl, _, rfl, grew_refl _, rfl⟩
      · intro vs y hg hd
        have hx : (Region.binds .any { on := 16, ground := .data } = true → vs 16 = .agg ky) ∧ (Region.binds .any { on := 14, ground := .chain } = true → vs 14 = .int .i64 vU) ∧ (Region.binds .any { on := 11, ground := .guard } = true → vs 11 = .bool true) ∧ True := hd
        have h16 : vs 16 = .agg ky := hx.1 rfl
        have h11 : vs 11 = .bool true := hx.2.2.1 rfl
        clear hx
        simp only [actOf, List.take_succ_cons, List.take_zero, List.drop_succ_cons, List.drop_zero, Act.put, List.setIfInBounds_toArray, List.set_cons_succ, List.set_cons_zero, Nat.reduceAdd]
        rw [show vs 16 = _ from h16, show vs 11 = _ from h11]
        go_wp2_with (go_at_call 35; refine (CKK.out y (RRY.out y hg)).mono ?_; rintro e z ⟨A2, c2, rfl, hr2, gz⟩)
        exact ⟨rfl, _, rfl, gz, ⟨A2, c2, rfl, hr2, fun ad h => Nat.zero_le _⟩⟩
      · intro vs y hg hd
        have hx : (Region.binds .any { on := 11, ground := .guard } = true → vs 11 = .bool true) ∧ True := hd
        have h11 : vs 11 = .bool true := hx.1 rfl
        clear hx
        simp only [actOf, List.take_succ_cons, List.take_zero, List.drop_succ_cons, List.drop_zero, Act.put, List.setIfInBounds_toArray, List.set_cons_succ, List.set_cons_zero, Nat.reduceAdd]
        rw [show vs 11 = _ from h11]
        have hm := HM6.out y hg
        go_wp2_with (refine wpList_load_mid_want (by rfl) 44 (.tmp 17) rfl p6 0 rfl g6.toList _ hm hut rfl SL6.out ?_; simp only [Array.toArray_toList])
        exact ⟨rfl, _, rfl, grew_refl _, rfl⟩
      · intro vs y hg hd
        have hx : (Region.binds .any { on := 18, ground := .data } = true → vs 18 = .agg g6) ∧ (Region.binds .any { on := 17, ground := .chain } = true → (fun v w => KV w 0 1 R 2 v) (vs 17) y) ∧ (Region.binds .any { on := 11, ground := .guard } = true → vs 11 = .bool true) ∧ True := hd
        have h18 : vs 18 = .agg g6 := hx.1 rfl
        have h11 : vs 11 = .bool true := hx.2.2.1 rfl
        clear hx
        simp only [actOf, List.take_succ_cons, List.take_zero, List.drop_succ_cons, List.drop_zero, Act.put, List.setIfInBounds_toArray, List.set_cons_succ, List.set_cons_zero, Nat.reduceAdd]
        rw [show vs 18 = _ from h18, show vs 11 = _ from h11]
        go_wp2_with (go_at_call 31; refine (CO6.out y (RLY.out y hg)).mono ?_; rintro e z ⟨A3, c3, rfl, hr3, gz, hb3⟩)
        exact ⟨rfl, _, rfl, gz, ⟨A3, c3, rfl, hr3, fun ad h => Nat.zero_le _⟩⟩
      · intro vs y hg hd
        have hx : (Region.binds .any { on := 17, ground := .data } = true → (fun v w => KV w 0 1 R 2 v) (vs 17) y) ∧ (Region.binds .any { on := 19, ground := .data } = true → (fun v w => AgT w 0 cu (m : Int) at_ (m : Int) ((0 : Nat) : Int) sF pl v) (vs 19) y) ∧ (Region.binds .any { on := 19, ground := .chain } = true → (fun v w => AgT w 0 cu (m : Int) at_ (m : Int) ((0 : Nat) : Int) sF pl v) (vs 19) y) ∧ (Region.binds .any { on := 11, ground := .guard } = true → vs 11 = .bool true) ∧ True := hd
        have h17 : (fun v w => KV w 0 1 R 2 v) (vs 17) y := hx.1 rfl
        have h19 : (fun v w => AgT w 0 cu (m : Int) at_ (m : Int) ((0 : Nat) : Int) sF pl v) (vs 19) y := hx.2.1 rfl
        have h11 : vs 11 = .bool true := hx.2.2.2.1 rfl
        clear hx
        simp only [actOf, List.take_succ_cons, List.take_zero, List.drop_succ_cons, List.drop_zero, Act.put, List.setIfInBounds_toArray, List.set_cons_succ, List.set_cons_zero, Nat.reduceAdd]
        rw [show vs 11 = _ from h11]
        obtain ⟨A2, c2, hv, hr2, hb2⟩ := KV.out h17
        rw [hv]
        obtain ⟨A3, c3, hv3, hr3, hb3⟩ := AgT.out h19
        rw [hv3]
        go_wp2_with (go_at_call 27; refine (CR6.out A2 c2 A3 c3 y hr2 hr3).mono ?_; rintro e z ⟨rfl, gz⟩)
        exact ⟨rfl, _, rfl, gz, rfl⟩
      · intro vs y hg hd
        have hx : (Region.binds .any { on := 20, ground := .data } = true → vs 20 = .int .i64 vU) ∧ (Region.binds .any { on := 11, ground := .guard } = true → vs 11 = .bool true) ∧ True := hd
        have h20 : vs 20 = .int .i64 vU := hx.1 rfl
        have h11 : vs 11 = .bool true := hx.2.1 rfl
        clear hx
        simp only [actOf, List.take_succ_cons, List.take_zero, List.drop_succ_cons, List.drop_zero, Act.put, List.setIfInBounds_toArray, List.set_cons_succ, List.set_cons_zero, Nat.reduceAdd]
        rw [show vs 20 = _ from h20, show vs 11 = _ from h11]
        go_wp2_with fail
        exact ⟨rfl, _, rfl, grew_refl _, rfl⟩
      · intro vs y hg hd
        have hx : (Region.binds .any { on := 15, ground := .data } = true → vs 15 = .bool bU) ∧ (Region.binds .any { on := 21, ground := .data } = true → vs 21 = .bool bU) ∧ (Region.binds .any { on := 11, ground := .guard } = true → vs 11 = .bool true) ∧ True := hd
        have h15 : vs 15 = .bool bU := hx.1 rfl
        have h21 : vs 21 = .bool bU := hx.2.1 rfl
        have h11 : vs 11 = .bool true := hx.2.2.1 rfl
        clear hx
        simp only [actOf, List.take_succ_cons, List.take_zero, List.drop_succ_cons, List.drop_zero, Act.put, List.setIfInBounds_toArray, List.set_cons_succ, List.set_cons_zero, Nat.reduceAdd]
        rw [show vs 15 = _ from h15, show vs 21 = _ from h21, show vs 11 = _ from h11]
        go_wp2_with fail
        exact ⟨rfl, _, rfl, grew_refl _, rfl⟩
      · intro vs y hg hd
        obtain ⟨h11, h22, _⟩ := hd
        replace h11 := h11 rfl
        replace h22 := h22 rfl
        simp only [actOf, List.take_succ_cons, List.take_zero, List.drop_succ_cons, List.drop_zero, Act.put, List.setIfInBounds_toArray, List.set_cons_succ, List.set_cons_zero, Nat.reduceAdd]
        rw [show vs 11 = _ from h11, show vs 22 = _ from h22]
        go_wp2_with fail
        exact ⟨rfl, _, rfl, grew_refl _, rfl⟩
      · intro vs y hg hd
        obtain ⟨h23, _⟩ := hd
        replace h23 := h23 rfl
        simp only [actOf, List.take_succ_cons, List.take_zero, List.drop_succ_cons, List.drop_zero, Act.put, List.setIfInBounds_toArray, List.set_cons_succ, List.set_cons_zero, Nat.reduceAdd]
        rw [show vs 23 = _ from h23]
        go_wp2_with fail
        exact ⟨rfl, _, rfl, grew_refl _, rfl⟩
      · intro vs y hg hd
        have hx : (Region.binds .any { on := 24, ground := .guard } = true → vs 24 = .bool true) ∧ True := hd
        have h24 : vs 24 = .bool true := hx.1 rfl
        clear hx
        simp only [actOf, List.take_succ_cons, List.take_zero, List.drop_succ_cons, List.drop_zero, Act.put, List.setIfInBounds_toArray, List.set_cons_succ, List.set_cons_zero, Nat.reduceAdd]
        rw [show vs 24 = _ from h24]
        have hm := HMK.out y hg
        go_wp2_with (refine wpList_load_mid_want (by rfl) 36 (.tmp 12) rfl pk 0 rfl ky.toList _ hm hkt rfl HSKL.out ?_; simp only [Array.toArray_toList])
        exact ⟨rfl, _, rfl, grew_refl _, rfl⟩
      · intro vs y hg hd
        have hx : (Region.binds .any { on := 24, ground := .guard } = true → vs 24 = .bool true) ∧ True := hd
        have h24 : vs 24 = .bool true := hx.1 rfl
        clear hx
        simp only [actOf, List.take_succ_cons, List.take_zero, List.drop_succ_cons, List.drop_zero, Act.put, List.setIfInBounds_toArray, List.set_cons_succ, List.set_cons_zero, Nat.reduceAdd]
        rw [show vs 24 = _ from h24]
        have hm := HM7.out y hg
        go_wp2_with (refine wpList_load_mid_want (by rfl) 44 (.tmp 18) rfl p7 0 rfl g7.toList _ hm hut rfl SL7.out ?_; simp only [Array.toArray_toList])
        exact ⟨rfl, _, rfl, grew_refl _, rfl⟩
      · intro vs y hg hd
        have hx : (Region.binds .any { on := 25, ground := .data } = true → vs 25 = .agg ky) ∧ (Region.binds .any { on := 26, ground := .data } = true → vs 26 = .agg g7) ∧ (Region.binds .any { on := 24, ground := .chain } = true → vs 24 = .bool true) ∧ (Region.binds .any { on := 24, ground := .guard } = true → vs 24 = .bool true) ∧ True := hd
        have h25 : vs 25 = .agg ky := hx.1 rfl
        have h26 : vs 26 = .agg g7 := hx.2.1 rfl
        have h24 : vs 24 = .bool true := hx.2.2.2.1 rfl
        clear hx
        simp only [actOf, List.take_succ_cons, List.take_zero, List.drop_succ_cons, List.drop_zero, Act.put, List.setIfInBounds_toArray, List.set_cons_succ, List.set_cons_zero, Nat.reduceAdd]
        rw [show vs 25 = _ from h25, show vs 26 = _ from h26, show vs 24 = _ from h24]
        go_wp2_with (go_at_call 26; refine (CV7.out y (SSY.out y hg) (RRY.out y hg) (RLY.out y hg)).mono ?_; rintro e z ⟨rfl, gz⟩)
        exact ⟨rfl, _, rfl, gz, rfl⟩
      · intro vs y hg hd
        have hx : (Region.binds .any { on := 27, ground := .data } = true → vs 27 = .int .i64 7) ∧ (Region.binds .any { on := 24, ground := .guard } = true → vs 24 = .bool true) ∧ True := hd
        have h27 : vs 27 = .int .i64 7 := hx.1 rfl
        have h24 : vs 24 = .bool true := hx.2.1 rfl
        clear hx
        simp only [actOf, List.take_succ_cons, List.take_zero, List.drop_succ_cons, List.drop_zero, Act.put, List.setIfInBounds_toArray, List.set_cons_succ, List.set_cons_zero, Nat.reduceAdd]
        rw [show vs 27 = _ from h27, show vs 24 = _ from h24]
        go_wp2_with fail
        exact ⟨rfl, _, rfl, grew_refl _, rfl⟩
      · intro vs y hg hd
        obtain ⟨h24, h28, _⟩ := hd
        replace h24 := h24 rfl
        replace h28 := h28 rfl
        simp only [actOf, List.take_succ_cons, List.take_zero, List.drop_succ_cons, List.drop_zero, Act.put, List.setIfInBounds_toArray, List.set_cons_succ, List.set_cons_zero, Nat.reduceAdd]
        rw [show vs 24 = _ from h24, show vs 28 = _ from h28]
        go_wp2_with fail
        exact ⟨rfl, _, rfl, grew_refl _, rfl⟩
    · intro vs y hg hJ
      have j0 : vs 0 = .agg ky := hJ 0 (by decide)
      have j1 : vs 1 = .agg g5 := hJ 1 (by decide)
      have j2 : vs 2 = .int .i64 vT := hJ 2 (by decide)
      have j3 : vs 3 = .bool bT := hJ 3 (by decide)
      have j4 : vs 4 = .agg ky := hJ 4 (by decide)
      have j6 : vs 6 = .agg g5 := hJ 6 (by decide)
      have j8 : vs 8 = .int .i64 vT := hJ 8 (by decide)
      have j9 : vs 9 = .bool bT := hJ 9 (by decide)
      have j10 : vs 10 = .bool true := hJ 10 (by decide)
      have j11 : vs 11 = .bool true := hJ 11 (by decide)
      have j12 : vs 12 = .agg ky := hJ 12 (by decide)
      have j13 : vs 13 = .agg g6 := hJ 13 (by decide)
      have j14 : vs 14 = .int .i64 vU := hJ 14 (by decide)
      have j15 : vs 15 = .bool bU := hJ 15 (by decide)
      have j16 : vs 16 = .agg ky := hJ 16 (by decide)
      have j18 : vs 18 = .agg g6 := hJ 18 (by decide)
      have j20 : vs 20 = .int .i64 vU := hJ 20 (by decide)
      have j21 : vs 21 = .bool bU := hJ 21 (by decide)
      have j22 : vs 22 = .bool true := hJ 22 (by decide)
      have j23 : vs 23 = .bool true := hJ 23 (by decide)
      have j24 : vs 24 = .bool true := hJ 24 (by decide)
      have j25 : vs 25 = .agg ky := hJ 25 (by decide)
      have j26 : vs 26 = .agg g7 := hJ 26 (by decide)
      have j27 : vs 27 = .int .i64 7 := hJ 27 (by decide)
      have j28 : vs 28 = .bool true := hJ 28 (by decide)
      have j29 : vs 29 = .bool true := hJ 29 (by decide)
      have s80 := hJ 5 (by decide)
      have s82 := hJ 7 (by decide)
      have s92 := hJ 17 (by decide)
      have s94 := hJ 19 (by decide)
      clear hJ
      simp only [actOf, List.take_succ_cons, List.take_zero, List.drop_succ_cons, List.drop_zero, Act.put, List.setIfInBounds_toArray, List.set_cons_succ, List.set_cons_zero, Nat.reduceAdd]
      go_wp2_with fail
      go_ret
      exact ⟨rfl, grew_trans G8.out hg⟩
end Go.Proofs.YtaeopobofmpioaaGreatDoor
