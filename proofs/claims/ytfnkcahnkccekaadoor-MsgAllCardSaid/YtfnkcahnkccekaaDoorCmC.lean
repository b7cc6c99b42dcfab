/- cmd.wide, cmd.Text, cmd.Digest. -/
import Derived.Test.YtfnkcahnkccekaaDoorReg
import Derived.Test.YtfnkcahnkccekaaDoorCmB
import Derived.Test.YtfnkcahnkccekaaDoorNmG
import Derived.Test.YtfnkcahnkccekaaDoorHash
namespace Go.Proofs.YtfnkcahnkccekaaDoor
open Go.RowKit
set_option linter.unusedVariables false
set_option maxRecDepth 100000 in
theorem wide_ok (A : Option Addr) (c : Nat) (l : List Int) (hl : l.length ≤ 1048576) (hp : ∀ x ∈ l, in64 x) (w : World) (hs : Std w) (hr : Rd w w.heap.size A (i64L l)) :
    Calls Tryd.prog 21 #[.slice A l.length c] w fun e w' => ∃ v, e = .returned v ∧ w'.ownsRow w.heap.size 2 1 v l.length (i64L l) ∧ Grew w w' := by
  have CM := Lib.hid (mapWide_ok A c l hl hp w hs hr)
  clear hr hs hp
  go_enter Tryd.func21, Tryd.ntmps21
  go_wp2_with (go_at_call 38; refine (CM.out).mono ?_; rintro e w' ⟨v, rfl, ho, hg⟩)
  go_ret
  exact ⟨_, rfl, by simpa [i64L] using ho, hg⟩
theorem four_in {c : Cm} (h : c.in) : ∀ x ∈ [c.cl, c.no, c.fr, c.tt], in64 x := fun x hx => h x (by
  simp only [Cm.l, List.mem_cons, List.not_mem_nil, or_false] at hx ⊢
  rcases hx with h | h | h | h
  · exact .inl h
  · exact .inr (.inl h)
  · exact .inr (.inr (.inl h))
  · exact .inr (.inr (.inr (.inl h))))
theorem box_cells (w : World) (t : TypeId) (a b c d e : Value) :
    (w.alloc (.cells #[a, b, c, d, e] t)).cell? ⟨w.heap.size, 0, none⟩ = some a ∧ (w.alloc (.cells #[a, b, c, d, e] t)).cell? ⟨w.heap.size, 1, none⟩ = some b ∧ (w.alloc (.cells #[a, b, c, d, e] t)).cell? ⟨w.heap.size, 2, none⟩ = some c ∧ (w.alloc (.cells #[a, b, c, d, e] t)).cell? ⟨w.heap.size, 3, none⟩ = some d ∧ (w.alloc (.cells #[a, b, c, d, e] t)).cell? ⟨w.heap.size, 4, none⟩ = some e := by
  refine ⟨?_, ?_, ?_, ?_, ?_⟩ <;> (rw [World.cell?_alloc_mark]; simp)
theorem five_keep {w w' : World} {k : Nat} {a b c d e : Value} (hk : k < w.heap.size) (h : Grew w w') (h0 : w.cell? ⟨k, 0, none⟩ = some a) (h1 : w.cell? ⟨k, 1, none⟩ = some b) (h2 : w.cell? ⟨k, 2, none⟩ = some c) (h3 : w.cell? ⟨k, 3, none⟩ = some d) (h4 : w.cell? ⟨k, 4, none⟩ = some e) :
    w'.cell? ⟨k, 0, none⟩ = some a ∧ w'.cell? ⟨k, 1, none⟩ = some b ∧ w'.cell? ⟨k, 2, none⟩ = some c ∧ w'.cell? ⟨k, 3, none⟩ = some d ∧ w'.cell? ⟨k, 4, none⟩ = some e :=
  ⟨(h.cell hk).trans h0, (h.cell hk).trans h1, (h.cell hk).trans h2, (h.cell hk).trans h3, (h.cell hk).trans h4⟩
set_option maxRecDepth 100000 in
set_option maxHeartbeats 400000 in
theorem text_ok (c : Cm) (hc : c.in) (w : World) (hs : Std w) : Calls Tryd.prog 9 #[c.v] w fun e w' => e = .returned (txtV (txC c)) ∧ Grew w w' := by
  have H4 := Lib.hid (four_in hc)
  have HC := Lib.hid hc
  clear hc
  obtain ⟨i0, hi, hz0, hz1, hz2⟩ := info_parts (show (Tryd.prog.info? 2).map (fun i => (i.zero, i.size, i.bytes)) = some (some (.int .i64 0), 1, 8) by kernel_rfl)
  obtain ⟨cl, no, fr, tt, am⟩ := c
  have HTX : Hid (txC ⟨cl, no, fr, tt, am⟩ = nums [cl, no, fr, tt, am]) := Lib.hid rfl
  have HC5 : Hid (∀ x ∈ [cl, no, fr, tt, am], in64 x) := Lib.hid HC.out
  clear HC
  unfold Cm.v
  dsimp only at H4 ⊢
  go_enter Tryd.func9, Tryd.ntmps9
  go_wp2_with fail
  obtain ⟨k0, k1, k2, k3, k4⟩ := box_cells w 24 (.int .i64 cl) (.int .i64 no) (.int .i64 fr) (.int .i64 tt) (.int .i64 am)
  have g0 := grew_alloc (grew_refl w) (.cells #[.int .i64 cl, .int .i64 no, .int .i64 fr, .int .i64 tt, .int .i64 am] 24)
  have S0 := Lib.hid (hs.grew g0)
  have hb := alloc_size w (.cells #[.int .i64 cl, .int .i64 no, .int .i64 fr, .int .i64 tt, .int .i64 am] 24)
  generalize w.alloc (.cells #[.int .i64 cl, .int .i64 no, .int .i64 fr, .int .i64 tt, .int .i64 am] 24) = W at *
  have hb : w.heap.size < W.heap.size := by omega
  generalize w.heap.size = bk at *
  clear hs
  refine wp_region_rel 13 (fun i => match i with
    | 0 => fun v _ => v = .pointer (some ⟨bk, 0, none⟩) | 1 => fun v _ => v = .int .i64 cl
    | 2 => fun v _ => v = .pointer (some ⟨bk, 1, none⟩) | 3 => fun v _ => v = .int .i64 no
    | 4 => fun v _ => v = .pointer (some ⟨bk, 2, none⟩) | 5 => fun v _ => v = .int .i64 fr
    | 6 => fun v _ => v = .pointer (some ⟨bk, 3, none⟩) | 7 => fun v _ => v = .int .i64 tt
    | 8 => fun v w => ∃ A, v = .slice A 4 4 ∧ Rd w w.heap.size A (i64L [cl, no, fr, tt])
    | 9 => fun v w => w.ownsRow W.heap.size 2 1 v 4 (i64L [cl, no, fr, tt])
    | 10 => fun v _ => v = .pointer (some ⟨bk, 4, none⟩) | 11 => fun v _ => v = .int .i64 am
    | 12 => fun v w => ∃ A, v = .slice A 1 1 ∧ Rd w w.heap.size A (i64L [am])
    | _ => fun _ _ => True) (by kernel_rfl) (by kernel_rfl) ?_ ?_ ?_
  · intro i v w1 w2 h hg
    match i, h with
    | 0, h | 1, h | 2, h | 3, h | 4, h | 5, h | 6, h | 7, h | 10, h | 11, h => exact h
    | 8, ⟨A, h1, h2⟩ => exact ⟨A, h1, h2.gr hg⟩
    | 12, ⟨A, h1, h2⟩ => exact ⟨A, h1, h2.gr hg⟩
    | 9, h => exact ownsRow_gr h hg
    | n + 13, _ => trivial
  · refine ⟨?_, ?_, ?_, ?_, ?_, ?_, ?_, ?_, ?_, ?_, ?_, ?_, ?_, trivial⟩
    · intro vs w1 hg hd
      simp only [actOf, List.take_succ_cons, List.take_zero, List.drop_succ_cons, List.drop_zero, Act.put, List.setIfInBounds_toArray, List.set_cons_succ, List.set_cons_zero, Nat.reduceAdd]
      go_wp2_with fail
      exact ⟨rfl, _, rfl, grew_refl _, rfl⟩
    · intro vs w1 hg hd
      obtain ⟨h0, _⟩ := hd
      replace h0 := h0 rfl
      simp only [actOf, List.take_succ_cons, List.take_zero, List.drop_succ_cons, List.drop_zero, Act.put, List.setIfInBounds_toArray, List.set_cons_succ, List.set_cons_zero, Nat.reduceAdd]
      rw [show vs 0 = _ from h0]
      have hc := (hg.cell (p := ⟨bk, 0, none⟩) hb).trans k0
      go_wp2_with fail
      exact ⟨rfl, _, rfl, grew_refl _, rfl⟩
    · intro vs w1 hg hd
      simp only [actOf, List.take_succ_cons, List.take_zero, List.drop_succ_cons, List.drop_zero, Act.put, List.setIfInBounds_toArray, List.set_cons_succ, List.set_cons_zero, Nat.reduceAdd]
      go_wp2_with fail
      exact ⟨rfl, _, rfl, grew_refl _, rfl⟩
    · intro vs w1 hg hd
      obtain ⟨h2, _⟩ := hd
      replace h2 := h2 rfl
      simp only [actOf, List.take_succ_cons, List.take_zero, List.drop_succ_cons, List.drop_zero, Act.put, List.setIfInBounds_toArray, List.set_cons_succ, List.set_cons_zero, Nat.reduceAdd]
      rw [show vs 2 = _ from h2]
      have hc := (hg.cell (p := ⟨bk, 1, none⟩) hb).trans k1
      go_wp2_with fail
      exact ⟨rfl, _, rfl, grew_refl _, rfl⟩
    · intro vs w1 hg hd
      simp only [actOf, List.take_succ_cons, List.take_zero, List.drop_succ_cons, List.drop_zero, Act.put, List.setIfInBounds_toArray, List.set_cons_succ, List.set_cons_zero, Nat.reduceAdd]
      go_wp2_with fail
      exact ⟨rfl, _, rfl, grew_refl _, rfl⟩
    · intro vs w1 hg hd
      obtain ⟨h4, _⟩ := hd
      replace h4 := h4 rfl
      simp only [actOf, List.take_succ_cons, List.take_zero, List.drop_succ_cons, List.drop_zero, Act.put, List.setIfInBounds_toArray, List.set_cons_succ, List.set_cons_zero, Nat.reduceAdd]
      rw [show vs 4 = _ from h4]
      have hc := (hg.cell (p := ⟨bk, 2, none⟩) hb).trans k2
      go_wp2_with fail
      exact ⟨rfl, _, rfl, grew_refl _, rfl⟩
    · intro vs w1 hg hd
      simp only [actOf, List.take_succ_cons, List.take_zero, List.drop_succ_cons, List.drop_zero, Act.put, List.setIfInBounds_toArray, List.set_cons_succ, List.set_cons_zero, Nat.reduceAdd]
      go_wp2_with fail
      exact ⟨rfl, _, rfl, grew_refl _, rfl⟩
    · intro vs w1 hg hd
      obtain ⟨h6, _⟩ := hd
      replace h6 := h6 rfl
      simp only [actOf, List.take_succ_cons, List.take_zero, List.drop_succ_cons, List.drop_zero, Act.put, List.setIfInBounds_toArray, List.set_cons_succ, List.set_cons_zero, Nat.reduceAdd]
      rw [show vs 6 = _ from h6]
      have hc := (hg.cell (p := ⟨bk, 3, none⟩) hb).trans k3
      go_wp2_with fail
      exact ⟨rfl, _, rfl, grew_refl _, rfl⟩
    · intro vs w1 hg hd
      obtain ⟨h1, h3, h5, h7, _⟩ := hd
      replace h1 := h1 rfl
      replace h3 := h3 rfl
      replace h5 := h5 rfl
      replace h7 := h7 rfl
      simp only [actOf, List.take_succ_cons, List.take_zero, List.drop_succ_cons, List.drop_zero, Act.put, List.setIfInBounds_toArray, List.set_cons_succ, List.set_cons_zero, Nat.reduceAdd]
      rw [show vs 1 = _ from h1, show vs 3 = _ from h3, show vs 5 = _ from h5, show vs 7 = _ from h7]
      go_wp2_with fail
      exact ⟨rfl, _, rfl, grew_alloc (grew_refl _) _, _, rfl, rd_made w1 _ _⟩
    · intro vs w1 hg hd
      obtain ⟨h8, _⟩ := hd
      replace h8 := h8 rfl
      simp only [actOf, List.take_succ_cons, List.take_zero, List.drop_succ_cons, List.drop_zero, Act.put, List.setIfInBounds_toArray, List.set_cons_succ, List.set_cons_zero, Nat.reduceAdd]
      obtain ⟨A, hv, hr⟩ := h8
      rw [hv]
      go_wp2_with (go_at_call 21; refine (wide_ok A 4 [cl, no, fr, tt] (by simp) H4.out w1 (S0.out.grew hg) hr).mono ?_; rintro e w2 ⟨v2, rfl, ho, hg2⟩)
      exact ⟨rfl, _, rfl, hg2, ownsRow_base ho hg.size⟩
    · intro vs w1 hg hd
      simp only [actOf, List.take_succ_cons, List.take_zero, List.drop_succ_cons, List.drop_zero, Act.put, List.setIfInBounds_toArray, List.set_cons_succ, List.set_cons_zero, Nat.reduceAdd]
      go_wp2_with fail
      exact ⟨rfl, _, rfl, grew_refl _, rfl⟩
    · intro vs w1 hg hd
      obtain ⟨h10, _⟩ := hd
      replace h10 := h10 rfl
      simp only [actOf, List.take_succ_cons, List.take_zero, List.drop_succ_cons, List.drop_zero, Act.put, List.setIfInBounds_toArray, List.set_cons_succ, List.set_cons_zero, Nat.reduceAdd]
      rw [show vs 10 = _ from h10]
      have hc := (hg.cell (p := ⟨bk, 4, none⟩) hb).trans k4
      go_wp2_with fail
      exact ⟨rfl, _, rfl, grew_refl _, rfl⟩
    · intro vs w1 hg hd
      obtain ⟨h11, _⟩ := hd
      replace h11 := h11 rfl
      simp only [actOf, List.take_succ_cons, List.take_zero, List.drop_succ_cons, List.drop_zero, Act.put, List.setIfInBounds_toArray, List.set_cons_succ, List.set_cons_zero, Nat.reduceAdd]
      rw [show vs 11 = _ from h11]
      go_wp2_with fail
      exact ⟨rfl, _, rfl, grew_alloc (grew_refl _) _, _, rfl, rd_made w1 _ _⟩
  · intro vs w1 hg hJ
    have h9 : w1.ownsRow W.heap.size 2 1 (vs 9) 4 (i64L [cl, no, fr, tt]) := hJ 9 (by decide)
    obtain ⟨A, hv, hr⟩ : ∃ A, vs 12 = .slice A 1 1 ∧ Rd w1 w1.heap.size A (i64L [am]) := hJ 12 (by decide)
    simp only [actOf, List.take_succ_cons, List.take_zero, List.drop_succ_cons, List.drop_zero, Act.put, List.setIfInBounds_toArray, List.set_cons_succ, List.set_cons_zero, Nat.reduceAdd]
    rw [hv]
    generalize vs 9 = v9 at *
    clear hJ
    have hz := hg.size
    go_wp2_with (at_builtin; refine wpList_append_rd rfl (.tmp 12) (.tmp 15) 74 rfl W.heap.size 2 i0 (.int .i64 0) 8 Tryd.underlying74 hi hz0 hz1 hz2 rfl v9 4 (i64L [cl, no, fr, tt]) rfl h9 w1.heap.size A 1 1 (i64L [am]) rfl rfl hr (i64L_one _) (by unfold maxLen; omega) (by omega) hz ?_; intro v6 w6 hown6 hgrow6 _; have hg6 : Grew W w6 := grew_by hg hgrow6 (own_base h9))
    obtain ⟨A6, c6, rfl, _, _, r6⟩ := own_rd hown6
    go_wp2_with (go_at_call 20; refine (nums_ok A6 c6 [cl, no, fr, tt, am] (by simp) HC5.out w6 (S0.out.grew hg6) r6).mono ?_; rintro e w7 ⟨rfl, hg7⟩)
    go_ret
    exact ⟨rfl, grew_trans g0 (grew_trans hg6 hg7)⟩
end Go.Proofs.YtfnkcahnkccekaaDoor
