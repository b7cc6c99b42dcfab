/- A box of int: All, Clear, Twin, New. -/
import Derived.Deep.DeepFit
import Derived.Test.YtpoimhjencpieaaBxC
namespace Go.Proofs.Ytpoimhjencpieaa
open Go.Conc Go.RowKit
set_option linter.unusedVariables false
def In2 (c1 c2 : Nat) : Nat → Prop := fun i => i = c1 ∨ i = c2
set_option maxRecDepth 100000 in
theorem ball_ok (g c1 c2 k1 k2 : Nat) (X Y : List Int) (w : World) (h : BoxI w g c1 c2 k1 k2 X Y) :
    Calls Try.prog 38 #[.pointer (some ⟨g, 0, none⟩)] w fun e w' => ∃ v, e = .returned v ∧ w'.ownsRow w.heap.size 3 1 v (X.length + Y.length) (i64L (X ++ Y)) ∧ BoxI w' g c1 c2 k1 k2 X Y ∧ Kp (In2 c1 c2) w w' := by
  obtain ⟨i0, hi, hz0, hz1, hz2⟩ := info_parts info_int
  have hc0 : w.cell? ⟨g, 0, none⟩ = some (.chan (some c1)) := h.bk.cell 0
  have hc1 : w.cell? ⟨g, 1, none⟩ = some (.chan (some c2)) := h.bk.cell 1
  have hXm : X.length ≤ 256 := by have := h.l1; have := h.m1; omega
  have hYm : Y.length ≤ 256 := by have := h.l2; have := h.m2; omega
  have HB := Lib.hid h
  clear h
  have hlt1 := HB.out.h1.lt
  have hlt2 := HB.out.h2.lt
  go_enter Try.func38, Try.ntmps38
  go_wp2_with fail
  go_region_held3 (fun w' => w'.cell? ⟨g, 0, none⟩ = some (.chan (some c1)) ∧ w'.cell? ⟨g, 1, none⟩ = some (.chan (some c2))) (go_keep)
    (first
      | (go_at_call 72; go_fit (all_ok c1 k1 X HB.out.l1 HB.out.m1 _ (by exact HB.out.h1)); rintro e wa ⟨va, rfl, hoa, hcha, hka⟩; have hka' : Kp (fun i => i = c1) w wa := ⟨hka.os, hka.tape, hka.output, hka.size, hka.block⟩; have HBa := Lib.hid (HB.out.set1 hka' X hcha HB.out.l1); have hza := hka'.size; obtain ⟨A1, d1, rfl, _, _, _⟩ := own_rd hoa; have hq0 := HBa.out.bk.cell 0; have hq1 := HBa.out.bk.cell 1)
      | (go_at_call 72; go_fit (all_ok c2 k2 Y HBa.out.l2 HBa.out.m2 wa HBa.out.h2); rintro e wb ⟨vb, rfl, hob, hchb, hkb⟩; have HBb := Lib.hid (HBa.out.set2 hkb Y hchb HB.out.l2); have hzb := hkb.size; have hoa' := ownsRow_kp hoa hkb (fun g hg hgc => by have h3 := (ownsRow_lt hoa g hg).1; simp at h3; omega); obtain ⟨A2, d2, rfl, _, _, rb⟩ := own_rd hob; have hq0 := HBb.out.bk.cell 0; have hq1 := HBb.out.bk.cell 1)
      | (refine step_append_rd (by rfl) _ _ _ (by rfl) w.heap.size 3 i0 (.int .i64 0) 8 Try.underlying22 hi hz0 hz1 hz2 rfl (.slice A1 X.length d1) X.length (i64L X) (by rfl) (by exact hoa') wb.heap.size A2 Y.length d2 (i64L Y) (by rfl) (i64L_length Y) (by exact rb) (i64L_one _) (by unfold maxLen; omega) (by omega) (by omega) ?_
         intro v3 w3 hown3 hgrow3 hat3
         have hk3 : Kp (fun i => (Value.slice A1 X.length d1).ownBlock = some i) wb w3 := kp_grown (kp_refl _ _) hgrow3 (fun g hg => .inl hg)
         have hno : ∀ i, i < w.heap.size → ¬ (Value.slice A1 X.length d1).ownBlock = some i := fun i hi hh => by have h3 := own_base hoa' i hh; simp at h3; omega
         have hgl := HB.out.bk.lt
         have HB3 := Lib.hid (HBb.out.kp hk3 (hno _ hgl) (hno _ hlt1) (hno _ hlt2))
         have hq0 := HB3.out.bk.cell 0
         have hq1 := HB3.out.bk.cell 1))
  go_wp2_with fail
  go_ret
  refine ⟨_, rfl, ?_, HB3.out, ?_⟩
  · rw [i64L_append]; exact hown3
  · exact kp_then (kp_then (kp_mono hka' (fun i hi => .inl hi)) (kp_mono hkb (S' := In2 c1 c2) (fun i hi => .inr hi)) (fun i hi => .inl hi)) hk3 (fun i hi => .inr (by have h3 := own_base hoa' i hi; simp at h3; omega))
/-- how much waits in a channel -/
def chLen (w : World) (c : Nat) : Nat := match w.heap[c]? with | some (.chan _ buf _ _ _ _) => buf.size | _ => 0
theorem Ch.chLen {w : World} {c cap : Nat} {l : List Value} (h : Ch w c cap l) : chLen w c = l.length := by
  obtain ⟨s, r, h⟩ := h
  simp [Proofs.Ytpoimhjencpieaa.chLen, h]
set_option maxRecDepth 100000 in
theorem bclear_ok (g c1 c2 k1 k2 : Nat) (X Y : List Int) (w : World) (h : BoxI w g c1 c2 k1 k2 X Y) :
    Calls Try.prog 35 #[.pointer (some ⟨g, 0, none⟩)] w fun e w' => e = .returned (.tuple #[]) ∧ BoxI w' g c1 c2 k1 k2 [] [] ∧ Kp (In2 c1 c2) w w' := by
  have HB := Lib.hid h
  clear h
  go_enter Try.func35, Try.ntmps35
  go_wp2_with fail
  go_loopw [2] (fun iv wr => ∃ X Y : List Int, Hid (BoxI wr g c1 c2 k1 k2 X Y) ∧ Hid (Kp (In2 c1 c2) w wr)) (fun _ wr => chLen wr c1 + chLen wr c2)
  case atStart => exact ⟨X, Y, HB, Lib.hid (kp_refl _ _)⟩
  case round =>
    obtain ⟨X, Y, HR, HK⟩ := hrel
    match X, Y with
    | x :: X, Y =>
      go_wp2_with fail
      refine (btake1 g c1 c2 k1 k2 x X Y _ HR.out).mono ?_
      rintro e w2 ⟨rfl, hb2, hk2⟩
      go_wp2_with fail
      go_roundw
      case rel => exact ⟨X, Y, Lib.hid hb2, Lib.hid (kp_then HK.out (kp_mono hk2 (S' := In2 c1 c2) (fun i hi => .inl hi)) (fun i hi => .inl hi))⟩
      case measure =>
        have m1 := hb2.h1.chLen
        have m2 := hb2.h2.chLen
        have m3 := HR.out.h1.chLen
        have m4 := HR.out.h2.chLen
        rw [i64L_length] at m1 m2 m3 m4
        simp only [List.length_cons] at m3
        omega
    | [], y :: Y =>
      go_wp2_with fail
      refine (btake2 g c1 c2 k1 k2 y Y _ HR.out).mono ?_
      rintro e w2 ⟨rfl, hb2, hk2⟩
      go_wp2_with fail
      go_roundw
      case rel => exact ⟨[], Y, Lib.hid hb2, Lib.hid (kp_then HK.out (kp_mono hk2 (S' := In2 c1 c2) (fun i hi => .inr hi)) (fun i hi => .inl hi))⟩
      case measure =>
        have m1 := hb2.h1.chLen
        have m2 := hb2.h2.chLen
        have m3 := HR.out.h1.chLen
        have m4 := HR.out.h2.chLen
        rw [i64L_length] at m1 m2 m3 m4
        simp only [List.length_cons] at m4
        omega
    | [], [] =>
      go_wp2_with fail
      refine (btake0 g c1 c2 k1 k2 _ HR.out).mono ?_
      rintro e w2 ⟨rfl, rfl⟩
      go_wp2_with fail
      refine bodyPost_ret (results_none rfl _ _ _) rfl ?_
      exact ⟨rfl, HR.out, HK.out⟩
set_option maxRecDepth 100000 in
theorem btwin_ok (g c1 c2 k1 k2 : Nat) (X Y : List Int) (w : World) (h : BoxI w g c1 c2 k1 k2 X Y) :
    Calls Try.prog 36 #[.pointer (some ⟨g, 0, none⟩)] w fun e w' => ∃ g' d1 d2, e = .returned (.pointer (some ⟨g', 0, none⟩)) ∧ w.heap.size ≤ g' ∧ w.heap.size ≤ d1 ∧ w.heap.size ≤ d2 ∧ BoxI w' g' d1 d2 k1 k2 X Y ∧ BoxI w' g c1 c2 k1 k2 X Y ∧ Kp (In2 c1 c2) w w' := by
  have hc0 : w.cell? ⟨g, 0, none⟩ = some (.chan (some c1)) := h.bk.cell 0
  have hc1 : w.cell? ⟨g, 1, none⟩ = some (.chan (some c2)) := h.bk.cell 1
  have HB := Lib.hid h
  clear h
  have hlt1 := HB.out.h1.lt
  have hlt2 := HB.out.h2.lt
  go_enter Try.func36, Try.ntmps36
  go_wp2_with fail
  go_region_held3 (fun w' => w'.cell? ⟨g, 0, none⟩ = some (.chan (some c1)) ∧ w'.cell? ⟨g, 1, none⟩ = some (.chan (some c2))) (go_keep)
    (first
      | (go_at_call 71; go_fit (twin_ok c1 k1 X HB.out.l1 HB.out.m1 _ (by exact HB.out.h1)); rintro e wa ⟨d1, rfl, hd1, hchd1, hcha, hka⟩; have hka' : Kp (fun i => i = c1) w wa := ⟨hka.os, hka.tape, hka.output, hka.size, hka.block⟩; have HBa := Lib.hid (HB.out.set1 hka' X hcha HB.out.l1); have hza := hka'.size; have hd1' : w.heap.size ≤ d1 := hd1; have hl1 := hchd1.lt; have hq0 := HBa.out.bk.cell 0; have hq1 := HBa.out.bk.cell 1)
      | (go_at_call 71; go_fit (twin_ok c2 k2 Y HBa.out.l2 HBa.out.m2 wa HBa.out.h2); rintro e wb ⟨d2, rfl, hd2, hchd2, hchb, hkb⟩; have HBb := Lib.hid (HBa.out.set2 hkb Y hchb HB.out.l2); have hzb := hkb.size; have hl2 := hchd2.lt; have hchd1' := hchd1.kp hkb (by omega); have hq0 := HBb.out.bk.cell 0; have hq1 := HBb.out.bk.cell 1))
  go_wp2_with fail
  go_ret
  have kl := kp_alloc (kp_refl (fun _ => False) wb) (.cells #[.chan (some d1), .chan (some d2)] 111)
  refine ⟨wb.heap.size, d1, d2, rfl, by omega, hd1', by omega, ⟨Bk.new _ _ _, hchd1'.kp kl id, hchd2.kp kl id, by omega, by omega, by omega, HB.out.l1, HB.out.l2, HB.out.m1, HB.out.m2⟩, HBb.out.kp kl id id id, ?_⟩
  exact kp_alloc (kp_then (kp_mono hka' (fun i hi => .inl hi)) (kp_mono hkb (S' := In2 c1 c2) (fun i hi => .inr hi)) (fun i hi => .inl hi)) _
theorem boxA (a b : Nat) (ha : a ≤ 256) (hb : b ≤ 256) (w : World) :
    BoxI (((w.alloc (.chan a #[] false 0 0 false)).alloc (.chan b #[] false 0 0 false)).alloc (.cells #[.chan (some w.heap.size), .chan (some (w.heap.size + 1))] 111)) (w.heap.size + 2) w.heap.size (w.heap.size + 1) a b [] [] := by
  have h1 := Ch.new w a
  have h2 := Ch.new (w.alloc (.chan a #[] false 0 0 false)) b
  rw [World.size_alloc] at h2
  have h1' := h1.kp (kp_alloc (kp_refl (fun _ => False) _) (.chan b #[] false 0 0 false)) id
  have k3 := kp_alloc (kp_refl (fun _ => False) ((w.alloc (.chan a #[] false 0 0 false)).alloc (.chan b #[] false 0 0 false))) (.cells #[.chan (some w.heap.size), .chan (some (w.heap.size + 1))] 111)
  have hb3 := Bk.new ((w.alloc (.chan a #[] false 0 0 false)).alloc (.chan b #[] false 0 0 false)) 111 #[.chan (some w.heap.size), .chan (some (w.heap.size + 1))]
  rw [World.size_alloc, World.size_alloc] at hb3
  exact ⟨hb3, h1'.kp k3 id, h2.kp k3 id, by omega, by omega, by omega, Nat.zero_le _, Nat.zero_le _, ha, hb⟩
theorem boxB (a b : Nat) (ha : a ≤ 256) (hb : b ≤ 256) (w : World) :
    BoxI (((w.alloc (.chan b #[] false 0 0 false)).alloc (.chan a #[] false 0 0 false)).alloc (.cells #[.chan (some (w.heap.size + 1)), .chan (some w.heap.size)] 111)) (w.heap.size + 2) (w.heap.size + 1) w.heap.size a b [] [] := by
  have h1 := Ch.new w b
  have h2 := Ch.new (w.alloc (.chan b #[] false 0 0 false)) a
  rw [World.size_alloc] at h2
  have h1' := h1.kp (kp_alloc (kp_refl (fun _ => False) _) (.chan a #[] false 0 0 false)) id
  have k3 := kp_alloc (kp_refl (fun _ => False) ((w.alloc (.chan b #[] false 0 0 false)).alloc (.chan a #[] false 0 0 false))) (.cells #[.chan (some (w.heap.size + 1)), .chan (some w.heap.size)] 111)
  have hb3 := Bk.new ((w.alloc (.chan b #[] false 0 0 false)).alloc (.chan a #[] false 0 0 false)) 111 #[.chan (some (w.heap.size + 1)), .chan (some w.heap.size)]
  rw [World.size_alloc, World.size_alloc] at hb3
  exact ⟨hb3, h2.kp k3 id, h1'.kp k3 id, by omega, by omega, by omega, Nat.zero_le _, Nat.zero_le _, ha, hb⟩
theorem BoxI.drew {w : World} {g c1 c2 k1 k2 : Nat} {X Y : List Int} (h : BoxI w g c1 c2 k1 k2 X Y) : BoxI w.drew g c1 c2 k1 k2 X Y := h.kp (kp_drew (kp_refl (fun _ => False) w)) id id id
theorem grew_3 (w : World) (a b c : Obj) : Grew w (((w.alloc a).alloc b).alloc c).drew := ⟨rfl, rfl, rfl, by simp [World.drew]; omega, fun i hi => (grew_alloc' (grew_alloc' (grew_alloc' (Below.refl _ w) a) b) c).block i hi⟩
set_option maxRecDepth 100000 in
theorem bnew_ok (a b : Int) (ha : 1 ≤ a ∧ a ≤ 256) (hb : 1 ≤ b ∧ b ≤ 256) (w : World) :
    Calls Try.prog 32 #[.int .i64 a, .int .i64 b] w fun e w' => ∃ g c1 c2, e = .returned (.tuple #[.pointer (some ⟨g, 0, none⟩), .int .i64 0]) ∧ w.heap.size ≤ g ∧ w.heap.size ≤ c1 ∧ w.heap.size ≤ c2 ∧ BoxI w' g c1 c2 a.toNat b.toNat [] [] ∧ Grew w w' := by
  have n1 : ¬ a < 1 := by omega
  have n2 : ¬ 256 < a := by omega
  have n3 : ¬ b < 1 := by omega
  have n4 : ¬ 256 < b := by omega
  have hma : ∀ w : World, (Instr.makeChan 109 (.int .i64 a)).run Try.prog w = .ok (.chan (some w.heap.size)) (w.alloc (.chan a.toNat #[] false 0 0 false)) := fun w => by
    have := mk_chan_int a.toNat (by omega) w
    rw [show ((a.toNat : Nat) : Int) = a by omega] at this; exact this
  have hmb : ∀ w : World, (Instr.makeChan 109 (.int .i64 b)).run Try.prog w = .ok (.chan (some w.heap.size)) (w.alloc (.chan b.toNat #[] false 0 0 false)) := fun w => by
    have := mk_chan_int b.toNat (by omega) w
    rw [show ((b.toNat : Nat) : Int) = b by omega] at this; exact this
  go_enter Try.func32, Try.ntmps32
  go_wp2_with fail
  go_region
  all_goals go_wp2_with fail
  all_goals go_ret2
  all_goals first
    | exact ⟨w.heap.size + 2, w.heap.size, w.heap.size + 1, rfl, by omega, by omega, by omega, (boxA a.toNat b.toNat (by omega) (by omega) w).drew, grew_3 w _ _ _⟩
    | exact ⟨w.heap.size + 2, w.heap.size + 1, w.heap.size, rfl, by omega, by omega, by omega, (boxB a.toNat b.toNat (by omega) (by omega) w).drew, grew_3 w _ _ _⟩
theorem bnew_bad (a b : Int) (h : (a < 1 ∨ 256 < a) ∨ (b < 1 ∨ 256 < b)) (w : World) :
    Calls Try.prog 32 #[.int .i64 a, .int .i64 b] w fun e w' => e = .returned (.tuple #[.pointer none, .int .i64 1]) ∧ w' = w := by
  by_cases n1 : a < 1
  · go_enter Try.func32, Try.ntmps32
    go_wp2_with fail
    go_ret2
    exact ⟨rfl, rfl⟩
  · by_cases n2 : 256 < a
    · go_enter Try.func32, Try.ntmps32
      go_wp2_with fail
      go_ret2
      exact ⟨rfl, rfl⟩
    · by_cases n3 : b < 1
      · go_enter Try.func32, Try.ntmps32
        go_wp2_with fail
        go_ret2
        exact ⟨rfl, rfl⟩
      · have n4 : 256 < b := by omega
        go_enter Try.func32, Try.ntmps32
        go_wp2_with fail
        go_ret2
        exact ⟨rfl, rfl⟩
end Go.Proofs.Ytpoimhjencpieaa
