/- QuorumMeet. -/
import Derived.Test.YtpoimhjencpieaaQlE
namespace Go.Proofs.Ytpoimhjencpieaa
open Go.RowKit
set_option linter.unusedVariables false
/-- a row that rises, in [0, i) -/
def Ris (i : Nat) (X : List Int) : Prop := X.Pairwise (· < ·) ∧ (∀ z ∈ X, 0 ≤ z ∧ z < (i : Int)) ∧ X.length ≤ i
theorem ris_nil : Ris 0 [] := ⟨List.Pairwise.nil, by simp, Nat.le_refl _⟩
theorem Ris.skip {i : Nat} {X : List Int} (h : Ris i X) : Ris (i + 1) X := ⟨h.1, fun z hz => by have := h.2.1 z hz; omega, by have := h.2.2; omega⟩
theorem Ris.put {i : Nat} {X : List Int} (h : Ris i X) : Ris (i + 1) (X ++ [(i : Int)]) := by
  refine ⟨?_, fun z hz => ?_, by rw [List.length_append, List.length_singleton]; have := h.2.2; omega⟩
  · rw [List.pairwise_append]
    exact ⟨h.1, List.pairwise_singleton _ _, fun a ha b hb => by have := h.2.1 a ha; simp at hb; omega⟩
  · rcases List.mem_append.1 hz with hz | hz
    · have := h.2.1 z hz; omega
    · simp at hz; omega
theorem Ris.dist {i : Nat} {X : List Int} (h : Ris i X) : distI X = X := distI_eq X X h.1 (fun _ => Iff.rfl)
theorem Ris.cnt {i : Nat} {X : List Int} (h : Ris i X) (N : Int) (hN : (i : Int) ≤ N) : cntN N (distI X) = X.length := by
  rw [h.dist]
  unfold cntN
  rw [List.filter_eq_self.2]
  intro z hz
  have := h.2.1 z hz
  unfold inN
  rw [decide_eq_true_iff]
  omega
/-- one of two rows grows: the other stays, and they lie apart as before -/
theorem two_step {w w' : World} {base nY : Nat} {e : TypeId} {u v y : Value} {ys : List Value} {o : Obj} (hy : w.ownsRow base e 1 y nY ys) (hd : ∀ g, u.ownBlock = some g → y.ownBlock ≠ some g)
    (hgrow : (w.alloc o).grownBy w' u.ownBlock) (hat : v.ownBlock = u.ownBlock ∨ v.ownBlock = some (w.alloc o).heap.size) : w'.ownsRow base e 1 y nY ys ∧ ∀ g, v.ownBlock = some g → y.ownBlock ≠ some g := by
  refine ⟨ownsRow_kp hy (kp_grown (S := fun j => u.ownBlock = some j) (kp_alloc (kp_refl _ _) _) hgrow (fun g hg => .inl hg)) (fun g hg hh => hd g hh hg), fun g hg hh => ?_⟩
  rcases hat with h | h
  · rw [h] at hg; exact hd g hg hh
  · have h1 := (ownsRow_lt hy g hh).2
    rw [h] at hg
    injection hg with hg
    simp at hg
    omega
theorem apart_symm {u v : Value} (h : ∀ g, u.ownBlock = some g → v.ownBlock ≠ some g) : ∀ g, v.ownBlock = some g → u.ownBlock ≠ some g := fun g hg hh => h g hh hg
set_option maxRecDepth 100000 in
set_option maxHeartbeats 1000000 in
theorem qmeet_law (f a b : Int) (hf : 0 ≤ f ∧ f ≤ 255) (ha : 0 ≤ a ∧ a ≤ 65535) (hb : 0 ≤ b ∧ b ≤ 65535) (W : World) :
    Calls Try.prog 4 #[.int .u8 f, .int .u16 a, .int .u16 b] W fun e w' => e = .returned (.bool true) ∧ Grew W w' := by
  obtain ⟨i0, hi, hz0, hz1, hz2⟩ := info_parts info_int
  have hF : 1 ≤ 1 + f % 3 ∧ 1 + f % 3 ≤ 3 := by omega
  go_enter Try.func4, Try.ntmps4
  go_wp2_with fail
  refine (qknown_any _).mono ?_
  rintro e w1 ⟨rfl, hg1⟩
  go_wp2_with fail
  have k1 : CF (1 + f % 3) W w1.heap.size none [] none [] _ := CF.made hg1 (Rd.nil_ _ _ _) (Rd.nil_ _ _ _)
  generalize 1 + f % 3 = F at *
  generalize w1.heap.size = p at *
  generalize w1.alloc (.cells #[.int .i64 F] 25) = w2 at *
  go_loopw [8, 9, 10] (fun xv yv iv wr => ∃ (i : Nat) (X Y : List Int), (i : Int) ≤ 3 * F + 1 ∧ iv = .int .i64 i ∧ Hid (Ris i X) ∧ Hid (Ris i Y) ∧ X.length ≤ i ∧ Y.length ≤ i ∧ wr.ownsRow w2.heap.size 3 1 xv X.length (i64L X) ∧ wr.ownsRow w2.heap.size 3 1 yv Y.length (i64L Y) ∧ Hid (∀ g, xv.ownBlock = some g → yv.ownBlock ≠ some g) ∧ Grew w2 wr) (fun _ _ i _ => 20 - (intOf i).toNat)
  case atStart => exact ⟨0, [], [], by omega, rfl, Lib.hid ris_nil, Lib.hid ris_nil, Nat.le_refl _, Nat.le_refl _, World.ownsRow_nil _ _ _ _, World.ownsRow_nil _ _ _ _, Lib.hid (fun g h => by cases h), Below.refl _ _⟩
  case round =>
    obtain ⟨i, X, Y, hiN, rfl, hRX, hRY, hXl, hYl, hox, hoy, hap, hg⟩ := hrel
    have kr := k1.step hg
    have qr := kr.cell
    go_wp2_with fail
    refine (qn_ok F hF _).mono ?_
    rintro e w5 ⟨rfl, hb5⟩
    have k5 := kr.step hb5
    have hg5 := grew_trans hg hb5
    have hox5 := ownsRow_kp hox (kp_grew (S := fun _ => False) hb5) (fun _ _ => id)
    have hoy5 := ownsRow_kp hoy (kp_grew (S := fun _ => False) hb5) (fun _ _ => id)
    have hz5 := hg5.size
    clear hox hoy kr qr
    by_cases hlt : (i : Int) < 3 * F + 1
    · have h16 : (i : Int) < 16 := by omega
      have e4 : IntKind.i64.wrap ((i : Int) + 1) = (i : Int) + 1 := IntWalk.i64_in _ (by omega)
      obtain ⟨ba, hba⟩ : ∃ ba, (bits BinOp.and IntKind.u16 (a / 2 ^ i) 1 == 0) = ba := ⟨_, rfl⟩
      obtain ⟨bb, hbb⟩ : ∃ bb, (bits BinOp.and IntKind.u16 (b / 2 ^ i) 1 == 0) = bb := ⟨_, rfl⟩
      cases ba <;> cases bb
      · go_wp2_with fail
        go_roundw
        case rel => exact ⟨i + 1, X, Y, by omega, by go_num, Lib.hid hRX.out.skip, Lib.hid hRY.out.skip, by omega, by omega, hox5, hoy5, hap, hg5⟩
        case measure => simp [intOf]; omega
      · go_wp2_with (at_builtin; refine wpList_append_rd rfl (.tmp 44) (.tmp 46) 22 rfl w2.heap.size 3 i0 (.int .i64 0) 8 Try.underlying22 hi hz0 hz1 hz2 rfl u9 Y.length (i64L Y) rfl (hoy5.alloc _) (w5.heap.size + 1) (some ⟨w5.heap.size, 0, none⟩) 1 1 [.int .i64 (i : Int)] rfl rfl (rd_new w5 3 #[.int .i64 (i : Int)] (0, 0)) (one_int _ _) (by unfold maxLen; omega) (by omega) (by simp; omega) ?_; intro v7 w7 hown7 hgrow7 hat7; obtain ⟨hox7, hap7⟩ := two_step hox5 (apart_symm hap.out) hgrow7 hat7; have hg7 := (grew_alloc' hg5 (.cells #[.int .i64 (i : Int)] 3)).grown hgrow7 (by simp; omega) (fun j hj => own_base hoy5 j hj))
        go_roundw
        case rel => exact ⟨i + 1, X, Y ++ [(i : Int)], by omega, by go_num, Lib.hid hRX.out.skip, Lib.hid hRY.out.put, by omega, by simp; omega, hox7, by rw [List.length_append, List.length_singleton, i64L_append]; exact hown7, Lib.hid (apart_symm hap7), hg7⟩
        case measure => simp [intOf]; omega
      · go_wp2_with (at_builtin; refine wpList_append_rd rfl (.tmp 34) (.tmp 36) 22 rfl w2.heap.size 3 i0 (.int .i64 0) 8 Try.underlying22 hi hz0 hz1 hz2 rfl u8 X.length (i64L X) rfl (hox5.alloc _) (w5.heap.size + 1) (some ⟨w5.heap.size, 0, none⟩) 1 1 [.int .i64 (i : Int)] rfl rfl (rd_new w5 3 #[.int .i64 (i : Int)] (0, 0)) (one_int _ _) (by unfold maxLen; omega) (by omega) (by simp; omega) ?_; intro v6 w6 hown6 hgrow6 hat6; obtain ⟨hoy6, hap6⟩ := two_step hoy5 hap.out hgrow6 hat6; have hg6 := (grew_alloc' hg5 (.cells #[.int .i64 (i : Int)] 3)).grown hgrow6 (by simp; omega) (fun j hj => own_base hox5 j hj); have hz6 := hg6.size)
        go_roundw
        case rel => exact ⟨i + 1, X ++ [(i : Int)], Y, by omega, by go_num, Lib.hid hRX.out.put, Lib.hid hRY.out.skip, by simp; omega, by omega, by rw [List.length_append, List.length_singleton, i64L_append]; exact hown6, hoy6, Lib.hid hap6, hg6⟩
        case measure => simp [intOf]; omega
      · go_wp2_with (first
          | (at_builtin; refine wpList_append_rd rfl (.tmp 34) (.tmp 36) 22 rfl w2.heap.size 3 i0 (.int .i64 0) 8 Try.underlying22 hi hz0 hz1 hz2 rfl u8 X.length (i64L X) rfl (hox5.alloc _) (w5.heap.size + 1) (some ⟨w5.heap.size, 0, none⟩) 1 1 [.int .i64 (i : Int)] rfl rfl (rd_new w5 3 #[.int .i64 (i : Int)] (0, 0)) (one_int _ _) (by unfold maxLen; omega) (by omega) (by simp; omega) ?_; intro v6 w6 hown6 hgrow6 hat6; obtain ⟨hoy6, hap6⟩ := two_step hoy5 hap.out hgrow6 hat6; have hg6 := (grew_alloc' hg5 (.cells #[.int .i64 (i : Int)] 3)).grown hgrow6 (by simp; omega) (fun j hj => own_base hox5 j hj); have hz6 := hg6.size)
          | (at_builtin; refine wpList_append_rd rfl (.tmp 44) (.tmp 46) 22 rfl w2.heap.size 3 i0 (.int .i64 0) 8 Try.underlying22 hi hz0 hz1 hz2 rfl u9 Y.length (i64L Y) rfl (hoy6.alloc _) (w6.heap.size + 1) (some ⟨w6.heap.size, 0, none⟩) 1 1 [.int .i64 (i : Int)] rfl rfl (rd_new w6 3 #[.int .i64 (i : Int)] (0, 0)) (one_int _ _) (by unfold maxLen; omega) (by omega) (by simp; omega) ?_; intro v7 w7 hown7 hgrow7 hat7; obtain ⟨hox7, hap7⟩ := two_step hown6 (apart_symm hap6) hgrow7 hat7; have hg7 := (grew_alloc' hg6 (.cells #[.int .i64 (i : Int)] 3)).grown hgrow7 (by simp; omega) (fun j hj => own_base hoy6 j hj)))
        go_roundw
        case rel => exact ⟨i + 1, X ++ [(i : Int)], Y ++ [(i : Int)], by omega, by go_num, Lib.hid hRX.out.put, Lib.hid hRY.out.put, by simp; omega, by simp; omega, by rw [List.length_append, List.length_singleton, i64L_append]; exact hox7, by rw [List.length_append, List.length_singleton, i64L_append]; exact hown7, Lib.hid (apart_symm hap7), hg7⟩
        case measure => simp [intOf]; omega
    · have hiE : (i : Int) = 3 * F + 1 := by omega
      obtain ⟨A8, c8, rfl, _, _, r8⟩ := own_rd hox5
      obtain ⟨A9, c9, rfl, _, _, r9⟩ := own_rd hoy5
      have HG : Hid (CF F W p A8 X A9 Y w5) := Lib.hid ⟨k5.cell, k5.lt, r8, r9, k5.gr⟩
      have cX : ∀ bx, decide (2 * F + 1 ≤ (X.length : Int)) = bx → ∀ w, Rd w w.heap.size A8 (i64L X) → Calls Try.prog 27 #[.agg #[.int .i64 F], .slice A8 X.length c8] w fun e w' => e = .returned (.bool bx) ∧ Grew w w' := fun bx hbx w h => by
        have := enough_ok F hF A8 c8 X (by omega) w h
        rw [hRX.out.cnt _ (by omega), hbx] at this; exact this
      have cY : ∀ bx, decide (2 * F + 1 ≤ (Y.length : Int)) = bx → ∀ w, Rd w w.heap.size A9 (i64L Y) → Calls Try.prog 27 #[.agg #[.int .i64 F], .slice A9 Y.length c9] w fun e w' => e = .returned (.bool bx) ∧ Grew w w' := fun bx hbx w h => by
        have := enough_ok F hF A9 c9 Y (by omega) w h
        rw [hRY.out.cnt _ (by omega), hbx] at this; exact this
      have hmeet : 2 * F + 1 ≤ (X.length : Int) → 2 * F + 1 ≤ (Y.length : Int) → F + 1 ≤ ((comI X Y).length : Int) := fun h1 h2 => by
        have := meet_most F.toNat X Y hRX.out.1 hRY.out.1 (fun z hz => by have := hRX.out.2.1 z hz; omega) (fun z hz => by have := hRY.out.2.1 z hz; omega) (by omega) (by omega)
        omega
      have HCX := Lib.hid cX
      have HCY := Lib.hid cY
      have HMT := Lib.hid hmeet
      have hXm : X.length ≤ 1048576 := by omega
      have hYm : Y.length ≤ 1048576 := by omega
      have HXI := Lib.hid (show ∀ z ∈ distI X, -9223372036854775808 ≤ z ∧ z ≤ 9223372036854775807 from fun z hz => by
        have := hRX.out.2.1 z (((distI_facts X).2 z).1 hz); omega)
      have HYI := Lib.hid (show ∀ z ∈ Y, -9223372036854775808 ≤ z ∧ z ≤ 9223372036854775807 from fun z hz => by
        have := hRY.out.2.1 z hz; omega)
      have q5 := k5.cell
      have h16 : (i : Int) < 16 := by omega
      have e5 : IntKind.i64.wrap (F + 1) = F + 1 := IntWalk.i64_in _ (by omega)
      clear cX cY hmeet hox5 hoy5 r8 r9 k5 hXl hYl hg hg5 hb5
      by_cases hx : 2 * F + 1 ≤ (X.length : Int)
      · by_cases hy : 2 * F + 1 ≤ (Y.length : Int)
        · go_wp2_with fail
          refine (HCX.out true (decide_eq_true hx) _ HG.out.ra).mono ?_
          rintro e w6 ⟨rfl, hb6⟩
          have HG6 := Lib.hid (HG.out.step hb6)
          have q6 := HG6.out.cell
          clear HG hb6 q5
          go_wp2_with fail
          refine (HCY.out true (decide_eq_true hy) _ HG6.out.rb).mono ?_
          rintro e w7 ⟨rfl, hb7⟩
          have HG7 := Lib.hid (HG6.out.step hb7)
          have q7 := HG7.out.cell
          clear HG6 hb7 q6
          have hm := HMT.out hx hy
          have CC := Lib.hid (common_ok A8 A9 c8 c9 X Y hXm hYm HYI.out HXI.out w7.drew (by exact HG7.out.ra) (by exact HG7.out.rb))
          go_wp2_with fail
          go_region_held3 (fun w' => w'.cell? ⟨p, 0, none⟩ = some (.int .i64 F)) (go_keep)
            (first
              | (go_at_call 21; refine CC.out.mono ?_; rintro e w8 ⟨v8, rfl, ho8, hb8⟩; obtain ⟨A10, c10, rfl, _, _, _⟩ := own_rd ho8; have HG8 := Lib.hid (HG7.out.step (grew_undrew1 hb8)); have hq8 := HG8.out.cell))
          go_wp2_with fail
          go_ret
          exact ⟨by simp, HG8.out.gr⟩
        · go_wp2_with fail
          refine (HCX.out true (decide_eq_true hx) _ HG.out.ra).mono ?_
          rintro e w6 ⟨rfl, hb6⟩
          have HG6 := Lib.hid (HG.out.step hb6)
          have q6 := HG6.out.cell
          clear HG hb6 q5
          go_wp2_with fail
          refine (HCY.out false (decide_eq_false (by omega)) _ HG6.out.rb).mono ?_
          rintro e w7 ⟨rfl, hb7⟩
          have HG7 := Lib.hid (HG6.out.step hb7)
          have q7 := HG7.out.cell
          clear HG6 hb7 q6
          go_wp2_with fail
          refine (qq_ok F hF _).mono ?_
          rintro e w8 ⟨rfl, hb8⟩
          have HG8 := Lib.hid (HG7.out.step hb8)
          have q8 := HG8.out.cell
          clear HG7 hb8 q7
          have hx' : ¬ (X.length : Int) < 2 * F + 1 := by omega
          have hy' : (Y.length : Int) < 2 * F + 1 := by omega
          go_wp2_with fail
          refine (qq_ok F hF _).mono ?_
          rintro e w9 ⟨rfl, hb9⟩
          have HG9 := Lib.hid (HG8.out.step hb9)
          go_wp2_with fail
          go_ret
          exact ⟨rfl, HG9.out.gr⟩
      · go_wp2_with fail
        refine (HCX.out false (decide_eq_false (by omega)) _ HG.out.ra).mono ?_
        rintro e w6 ⟨rfl, hb6⟩
        have HG6 := Lib.hid (HG.out.step hb6)
        have q6 := HG6.out.cell
        clear HG hb6 q5
        go_wp2_with fail
        refine (qq_ok F hF _).mono ?_
        rintro e w7 ⟨rfl, hb7⟩
        have HG7 := Lib.hid (HG6.out.step hb7)
        have q7 := HG7.out.cell
        clear HG6 hb7 q6
        have hx' : (X.length : Int) < 2 * F + 1 := by omega
        go_wp2_with fail
        go_ret
        exact ⟨rfl, HG7.out.gr⟩
end Go.Proofs.Ytpoimhjencpieaa
