/- The methods of a box of int. -/
import Derived.Deep.RegionHeld3
import Derived.Test.YtpoimhjencpieaaBxB
import Derived.Test.YtpoimhjencpieaaQrA
namespace Go.Proofs.Ytpoimhjencpieaa
open Go.Conc Go.RowKit
set_option linter.unusedVariables false
structure BoxI (w : World) (g c1 c2 k1 k2 : Nat) (X Y : List Int) : Prop where
  bk : Bk w g 111 #[.chan (some c1), .chan (some c2)]
  h1 : Ch w c1 k1 (i64L X)
  h2 : Ch w c2 k2 (i64L Y)
  n12 : c1 ≠ c2
  ng1 : g ≠ c1
  ng2 : g ≠ c2
  l1 : X.length ≤ k1
  l2 : Y.length ≤ k2
  m1 : k1 ≤ 256
  m2 : k2 ≤ 256
theorem BoxI.kp {S : Nat → Prop} {w w' : World} {g c1 c2 k1 k2 : Nat} {X Y : List Int} (h : BoxI w g c1 c2 k1 k2 X Y) (k : Kp S w w') (hg : ¬ S g) (h1 : ¬ S c1) (h2 : ¬ S c2) : BoxI w' g c1 c2 k1 k2 X Y :=
  ⟨h.bk.kp k hg, h.h1.kp k h1, h.h2.kp k h2, h.n12, h.ng1, h.ng2, h.l1, h.l2, h.m1, h.m2⟩
theorem BoxI.grew {w w' : World} {g c1 c2 k1 k2 : Nat} {X Y : List Int} (h : BoxI w g c1 c2 k1 k2 X Y) (k : Grew w w') : BoxI w' g c1 c2 k1 k2 X Y :=
  h.kp (kp_grew (S := fun _ => False) k) id id id
theorem BoxI.set1 {w w' : World} {g c1 c2 k1 k2 : Nat} {X Y : List Int} (h : BoxI w g c1 c2 k1 k2 X Y) (k : Kp (fun i => i = c1) w w') (X' : List Int) (h' : Ch w' c1 k1 (i64L X')) (hl : X'.length ≤ k1) : BoxI w' g c1 c2 k1 k2 X' Y :=
  ⟨h.bk.kp k h.ng1, h', h.h2.kp k (fun e => h.n12 e.symm), h.n12, h.ng1, h.ng2, hl, h.l2, h.m1, h.m2⟩
theorem BoxI.set2 {w w' : World} {g c1 c2 k1 k2 : Nat} {X Y : List Int} (h : BoxI w g c1 c2 k1 k2 X Y) (k : Kp (fun i => i = c2) w w') (Y' : List Int) (h' : Ch w' c2 k2 (i64L Y')) (hl : Y'.length ≤ k2) : BoxI w' g c1 c2 k1 k2 X Y' :=
  ⟨h.bk.kp k h.ng2, h.h1.kp k h.n12, h', h.n12, h.ng1, h.ng2, h.l1, hl, h.m1, h.m2⟩
theorem bput1 (g c1 c2 k1 k2 : Nat) (X Y : List Int) (x : Int) (w : World) (h : BoxI w g c1 c2 k1 k2 X Y) (hr : X.length < k1) :
    Calls Try.prog 33 #[.pointer (some ⟨g, 0, none⟩), .int .i64 x, .bool true] w fun e w' => e = .returned (.int .i64 0) ∧ BoxI w' g c1 c2 k1 k2 (X ++ [x]) Y ∧ Kp (fun i => i = c1) w w' := by
  have hc0 : w.cell? ⟨g, 0, none⟩ = some (.chan (some c1)) := h.bk.cell 0
  have hc1 : w.cell? ⟨g, 1, none⟩ = some (.chan (some c2)) := h.bk.cell 1
  go_enter Try.func33, Try.ntmps33
  go_wp2_with fail
  refine (put_int_room c1 k1 _ _ _ h.h1 (by rw [i64L_length]; exact hr)).mono ?_
  rintro e w' ⟨rfl, hch, hk⟩
  go_wp2_with fail
  go_ret
  exact ⟨rfl, h.set1 hk _ (by rw [i64L_append]; exact hch) (by simp; omega), hk⟩
theorem bput2 (g c1 c2 k1 k2 : Nat) (X Y : List Int) (x : Int) (w : World) (h : BoxI w g c1 c2 k1 k2 X Y) (hr : Y.length < k2) :
    Calls Try.prog 33 #[.pointer (some ⟨g, 0, none⟩), .int .i64 x, .bool false] w fun e w' => e = .returned (.int .i64 0) ∧ BoxI w' g c1 c2 k1 k2 X (Y ++ [x]) ∧ Kp (fun i => i = c2) w w' := by
  have hc0 : w.cell? ⟨g, 0, none⟩ = some (.chan (some c1)) := h.bk.cell 0
  have hc1 : w.cell? ⟨g, 1, none⟩ = some (.chan (some c2)) := h.bk.cell 1
  go_enter Try.func33, Try.ntmps33
  go_wp2_with fail
  refine (put_int_room c2 k2 _ _ _ h.h2 (by rw [i64L_length]; exact hr)).mono ?_
  rintro e w' ⟨rfl, hch, hk⟩
  go_wp2_with fail
  go_ret
  exact ⟨rfl, h.set2 hk _ (by rw [i64L_append]; exact hch) (by simp; omega), hk⟩
theorem bput1_full (g c1 c2 k1 k2 : Nat) (X Y : List Int) (x : Int) (w : World) (h : BoxI w g c1 c2 k1 k2 X Y) (hr : k1 ≤ X.length) :
    Calls Try.prog 33 #[.pointer (some ⟨g, 0, none⟩), .int .i64 x, .bool true] w fun e w' => e = .returned (.int .i64 6) ∧ w' = w := by
  have hc0 : w.cell? ⟨g, 0, none⟩ = some (.chan (some c1)) := h.bk.cell 0
  have hc1 : w.cell? ⟨g, 1, none⟩ = some (.chan (some c2)) := h.bk.cell 1
  go_enter Try.func33, Try.ntmps33
  go_wp2_with fail
  refine (put_int_full c1 k1 _ _ _ h.h1 (by rw [i64L_length]; exact hr)).mono ?_
  rintro e w' ⟨rfl, rfl⟩
  go_wp2_with fail
  go_ret
  exact ⟨rfl, rfl⟩
theorem bput2_full (g c1 c2 k1 k2 : Nat) (X Y : List Int) (x : Int) (w : World) (h : BoxI w g c1 c2 k1 k2 X Y) (hr : k2 ≤ Y.length) :
    Calls Try.prog 33 #[.pointer (some ⟨g, 0, none⟩), .int .i64 x, .bool false] w fun e w' => e = .returned (.int .i64 6) ∧ w' = w := by
  have hc0 : w.cell? ⟨g, 0, none⟩ = some (.chan (some c1)) := h.bk.cell 0
  have hc1 : w.cell? ⟨g, 1, none⟩ = some (.chan (some c2)) := h.bk.cell 1
  go_enter Try.func33, Try.ntmps33
  go_wp2_with fail
  refine (put_int_full c2 k2 _ _ _ h.h2 (by rw [i64L_length]; exact hr)).mono ?_
  rintro e w' ⟨rfl, rfl⟩
  go_wp2_with fail
  go_ret
  exact ⟨rfl, rfl⟩
theorem btake1 (g c1 c2 k1 k2 : Nat) (x : Int) (X Y : List Int) (w : World) (h : BoxI w g c1 c2 k1 k2 (x :: X) Y) :
    Calls Try.prog 34 #[.pointer (some ⟨g, 0, none⟩)] w fun e w' => e = .returned (.tuple #[.int .i64 x, .bool true]) ∧ BoxI w' g c1 c2 k1 k2 X Y ∧ Kp (fun i => i = c1) w w' := by
  have hc0 : w.cell? ⟨g, 0, none⟩ = some (.chan (some c1)) := h.bk.cell 0
  have hc1 : w.cell? ⟨g, 1, none⟩ = some (.chan (some c2)) := h.bk.cell 1
  go_enter Try.func34, Try.ntmps34
  go_wp2_with fail
  refine (take_int_some c1 k1 _ _ _ h.h1).mono ?_
  rintro e w' ⟨rfl, hch, hk⟩
  go_wp2_with fail
  go_ret2
  exact ⟨rfl, h.set1 hk X hch (by have := h.l1; simp at this; omega), hk⟩
theorem btake2 (g c1 c2 k1 k2 : Nat) (y : Int) (Y : List Int) (w : World) (h : BoxI w g c1 c2 k1 k2 [] (y :: Y)) :
    Calls Try.prog 34 #[.pointer (some ⟨g, 0, none⟩)] w fun e w' => e = .returned (.tuple #[.int .i64 y, .bool true]) ∧ BoxI w' g c1 c2 k1 k2 [] Y ∧ Kp (fun i => i = c2) w w' := by
  have hc0 : w.cell? ⟨g, 0, none⟩ = some (.chan (some c1)) := h.bk.cell 0
  have hc1 : w.cell? ⟨g, 1, none⟩ = some (.chan (some c2)) := h.bk.cell 1
  go_enter Try.func34, Try.ntmps34
  go_wp2_with fail
  refine (take_int_none c1 k1 _ h.h1).mono ?_
  rintro e w' ⟨rfl, rfl⟩
  go_wp2_with fail
  refine (take_int_some c2 k2 _ _ _ h.h2).mono ?_
  rintro e w' ⟨rfl, hch, hk⟩
  go_wp2_with fail
  go_ret2
  exact ⟨rfl, h.set2 hk Y hch (by have := h.l2; simp at this; omega), hk⟩
theorem btake0 (g c1 c2 k1 k2 : Nat) (w : World) (h : BoxI w g c1 c2 k1 k2 [] []) :
    Calls Try.prog 34 #[.pointer (some ⟨g, 0, none⟩)] w fun e w' => e = .returned (.tuple #[.int .i64 0, .bool false]) ∧ w' = w := by
  have hc0 : w.cell? ⟨g, 0, none⟩ = some (.chan (some c1)) := h.bk.cell 0
  have hc1 : w.cell? ⟨g, 1, none⟩ = some (.chan (some c2)) := h.bk.cell 1
  go_enter Try.func34, Try.ntmps34
  go_wp2_with fail
  refine (take_int_none c1 k1 _ h.h1).mono ?_
  rintro e w' ⟨rfl, rfl⟩
  go_wp2_with fail
  refine (take_int_none c2 k2 _ h.h2).mono ?_
  rintro e w' ⟨rfl, rfl⟩
  go_wp2_with fail
  go_ret2
  exact ⟨rfl, rfl⟩
theorem blen (g c1 c2 k1 k2 : Nat) (X Y : List Int) (w : World) (h : BoxI w g c1 c2 k1 k2 X Y) :
    Calls Try.prog 37 #[.pointer (some ⟨g, 0, none⟩)] w fun e w' => e = .returned (.tuple #[.int .i64 (X.length : Int), .int .i64 (Y.length : Int)]) ∧ ∃ n, w' = w.drewN n := by
  have hc0 : w.cell? ⟨g, 0, none⟩ = some (.chan (some c1)) := h.bk.cell 0
  have hc1 : w.cell? ⟨g, 1, none⟩ = some (.chan (some c2)) := h.bk.cell 1
  have hl1 := fun n => (show Ch (w.drewN n) c1 k1 (i64L X) from h.h1).len 3
  have hl2 := fun n => (show Ch (w.drewN n) c2 k2 (i64L Y) from h.h2).len 3
  have hl3 := h.h1.len 3
  have hl4 := h.h2.len 3
  go_enter Try.func37, Try.ntmps37
  go_wp2_with fail
  go_quiet (fail)
  go_wp2_with fail
  go_ret2
  exact ⟨rfl, _, rfl⟩
end Go.Proofs.Ytpoimhjencpieaa
