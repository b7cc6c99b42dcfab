/- box: all and twin of a channel of int. -/
import Derived.Conc.LoneSelectN
import Derived.Laws.MakeOwn
import Derived.Test.YtpoimhjencpieaaBxA
import Derived.Test.YtpoimhjencpieaaCol
namespace Go.Proofs.Ytpoimhjencpieaa
open Go.Conc Go.RowKit
set_option linter.unusedVariables false
theorem Ch.len {w : World} {c cap : Nat} {l : List Int} (h : Ch w c cap (i64L l)) (ty : TypeId) : (Builtin.len_ #[109] ty #[.chan (some c)]).run Try.prog w = .ok (.int .i64 (l.length : Int)) w := by
  obtain ⟨s, r, h⟩ := h
  have := run_len_chan (P := Try.prog) 109 ty Try.underlying109 h
  simpa [goInt, i64L_length] using this
theorem Ch.cap_ {w : World} {c cap : Nat} {l : List Int} (h : Ch w c cap (i64L l)) (ty : TypeId) : (Builtin.cap_ #[109] ty #[.chan (some c)]).run Try.prog w = .ok (.int .i64 (cap : Int)) w := by
  obtain ⟨s, r, h⟩ := h
  have := run_cap_chan (P := Try.prog) 109 ty Try.underlying109 h
  simpa [goInt] using this
theorem mk_chan_int (n : Nat) (hn : n ≤ 256) (w : World) : (Instr.makeChan 109 (.int .i64 (n : Int))).run Try.prog w = .ok (.chan (some w.heap.size)) (w.alloc (.chan n #[] false 0 0 false)) := by
  obtain ⟨i0, hi, hz0, hz1, hz2⟩ := info_parts info_int
  exact run_makeChan (P := Try.prog) (w := w) Try.underlying109 hi .i64 n (by omega) (by rw [hz2]; omega)
theorem grew_grownB {a b c : World} {r : Option Nat} (h : Grew a b) (k : b.grownBy c r) (hr : ∀ i, r = some i → a.heap.size ≤ i) : Grew a c := h.grown k h.size hr
theorem rot_step (l : List Int) (k : Nat) (h : k < l.length) : i64L (l.drop k ++ l.take k) = .int .i64 l[k] :: i64L (l.drop (k + 1) ++ l.take k) ∧ i64L (l.drop (k + 1) ++ l.take k) ++ [.int .i64 l[k]] = i64L (l.drop (k + 1) ++ l.take (k + 1)) := by
  constructor
  · rw [List.drop_eq_getElem_cons h, List.cons_append]; rfl
  · rw [List.take_succ_eq_append_getElem h, ← List.append_assoc, i64L_append (_ ++ _)]; rfl
set_option maxRecDepth 100000 in
theorem all_ok (c cap : Nat) (l : List Int) (hl : l.length ≤ cap) (hcap : cap ≤ 256) (w : World) (h : Ch w c cap (i64L l)) :
    Calls Try.prog 72 #[.chan (some c)] w fun e w' => ∃ v, e = .returned v ∧ w'.ownsRow w.heap.size 3 1 v l.length (i64L l) ∧ Ch w' c cap (i64L l) ∧ Kp (fun i => i = c) w w' := by
  obtain ⟨i0, hi, hz0, hz1, hz2⟩ := info_parts info_int
  have hlt := h.lt
  have hl0 := h.len 3
  obtain ⟨w1, hmk, hown, hgrow⟩ := run_make_own (P := Try.prog) w w.heap.size 22 3 i0 (.int .i64 0) 1 Try.underlying22 hi hz0 hz1 .i64 .i64 l.length (by rw [hz2]; omega) (by unfold maxLen; omega) (Nat.le_refl _)
  have hg1 : Grew w w1 := grew_grownB (Below.refl _ _) hgrow (fun j hj => by cases hj)
  have h1 := h.kp (kp_grew (S := fun _ => False) hg1) (fun h => h.elim)
  have hl1 := h1.len 3
  clear hgrow h
  go_enter Try.func72, Try.ntmps72
  go_wp2_with fail
  clear hl0 hl1 hmk
  go_loopw [3, 11] (fun v iv wr => ∃ k : Nat, k ≤ l.length ∧ iv = .int .i64 k ∧ wr.ownsRow w.heap.size 3 1 v k (i64L (l.take k)) ∧ Ch wr c cap (i64L (l.drop k ++ l.take k)) ∧ Kp (fun i => i = c) w wr) (fun _ iv _ => l.length - (intOf iv).toNat)
  case atStart => exact ⟨0, Nat.zero_le _, rfl, by simpa [i64L] using hown, by simpa using h1, kp_grew hg1⟩
  case round =>
    obtain ⟨k, hk, rfl, hown, hch, hkp⟩ := hrel
    by_cases hkl : k < l.length
    · obtain ⟨r1, r2⟩ := rot_step l k hkl
      have HR2 := Lib.hid r2
      have HT := Lib.hid (show l.take (k + 1) = l.take k ++ [l[k]] by rw [List.take_succ_eq_append_getElem hkl])
      rw [r1] at hch
      clear r1 r2
      have hll : (i64L (l.drop (k + 1) ++ l.take k)).length < cap := by rw [i64L_length]; simp; omega
      generalize l[k] = z at *
      have e4 : IntKind.i64.wrap ((k : Int) + 1) = (k : Int) + 1 := IntWalk.i64_in _ (by omega)
      go_wp2_with fail
      refine (take_int_some c cap _ _ _ hch).mono ?_
      rintro e w2 ⟨rfl, hch2, hk2⟩
      have hz := hkp.size
      have hown2 := ownsRow_kp hown hk2 (fun g hg hgc => by have := (ownsRow_lt hown g hg).1; omega)
      have hkp2 := kp_trans hkp hk2
      have hz2' := hkp2.size
      clear hown hch hkp hk2
      go_wp2_with (first
        | (at_builtin; refine wpList_append_own _ rfl _ _ 22 rfl w.heap.size 3 i0 (.int .i64 0) 1 8 Try.underlying22 hi hz0 hz1 hz2 rfl (by decide) _ _ _ rfl (hown2.alloc _) ⟨w2.heap.size, 0, none⟩ 1 1 [.int .i64 z] rfl rfl (cell_one_new _ _ _) (by simp [Value.oneCell']) (by unfold maxLen; omega) (by omega) (by simp; omega) ?_; intro v' w3 hown3 hgrow3 _; have hk3 : Kp (fun i => i = c) w w3 := kp_grown (kp_alloc hkp2 _) hgrow3 (fun g hg => .inr (own_base hown2 g hg)); have hch3 := hch2.kp (kp_grown (S := fun j => _ = some j) (kp_alloc (kp_refl _ w2) (.cells #[.int .i64 z] 3)) hgrow3 (fun g hg => .inl hg)) (fun hh => by have := own_base hown2 c hh; omega))
        | (go_at_call 69; refine (put_int_room c cap _ _ _ hch3 hll).mono ?_; rintro e w4 ⟨rfl, hch4, hk4⟩))
      go_roundw
      case rel =>
        rw [HR2.out] at hch4
        refine ⟨k + 1, by omega, by go_num, ?_, hch4, kp_trans hk3 hk4⟩
        rw [HT.out, i64L_append]
        exact ownsRow_kp hown3 hk4 (fun g hg hgc => by have := (ownsRow_lt hown3 g hg).1; omega)
      case measure => simp [intOf]; omega
    · obtain rfl : k = l.length := by omega
      rw [List.take_length] at hown
      rw [List.drop_length, List.nil_append, List.take_length] at hch
      go_wp2_with fail
      go_ret
      exact ⟨_, rfl, hown, hch, hkp⟩
set_option maxRecDepth 100000 in
theorem twin_ok (c cap : Nat) (l : List Int) (hl : l.length ≤ cap) (hcap : cap ≤ 256) (w : World) (h : Ch w c cap (i64L l)) :
    Calls Try.prog 71 #[.chan (some c)] w fun e w' => ∃ d, e = .returned (.chan (some d)) ∧ w.heap.size ≤ d ∧ Ch w' d cap (i64L l) ∧ Ch w' c cap (i64L l) ∧ Kp (fun i => i = c) w w' := by
  have hlt := h.lt
  have hc0 := h.cap_ 3
  have hmc := mk_chan_int cap hcap w
  have h1 := h.kp (kp_alloc (kp_refl (fun _ => False) w) (.chan cap #[] false 0 0 false)) (fun h => h)
  have hd := Ch.new w cap
  clear h
  go_enter Try.func71, Try.ntmps71
  go_wp2_with fail
  refine (all_ok c cap l hl hcap _ h1).mono ?_
  rintro e w2 ⟨v, rfl, ho, hch, hk⟩
  have hd2 := hd.kp hk (by omega)
  have hk2 : Kp (fun i => i = c) w w2 := kp_trans (kp_alloc (kp_refl _ w) (.chan cap #[] false 0 0 false)) hk
  obtain ⟨A, ca, rfl, _, _, _⟩ := own_rd ho
  have HO := Lib.hid ho
  rw [World.size_alloc] at HO
  clear hc0 hmc h1 hd hk ho
  go_wp2_with fail
  generalize hD : w.heap.size = d at *
  have HDW := Lib.hid hD
  clear hD
  go_loopw [12] (fun iv wr => ∃ k : Nat, k ≤ l.length ∧ iv = .int .i64 k ∧ Ch wr d cap (i64L (l.take k)) ∧ Kp (fun i => i = d) w2 wr) (fun iv _ => l.length - (intOf iv).toNat)
  case atStart => exact ⟨0, Nat.zero_le _, rfl, by simpa [i64L] using hd2, kp_refl _ _⟩
  case round =>
    obtain ⟨k, hk, rfl, hchd, hkp⟩ := hrel
    by_cases hkl : k < l.length
    · have ho2 := ownsRow_kp HO.out hkp (fun g hg hgc => by have := (ownsRow_lt HO.out g hg).1; omega)
      obtain ⟨A', ca', hq, _, _, r2⟩ := own_rd ho2
      obtain ⟨rfl, rfl⟩ : A = A' ∧ ca = ca' := by injection hq with h1 h2 h3; exact ⟨h1, h3⟩
      obtain ⟨ad, rfl, hbl, hcell⟩ := rd_i64 r2 k hkl
      have HT := Lib.hid (show l.take (k + 1) = l.take k ++ [l[k]] by rw [List.take_succ_eq_append_getElem hkl])
      have hll : (i64L (l.take k)).length < cap := by rw [i64L_length, List.length_take]; omega
      have hk0 : (0 : Int) ≤ (k : Int) := by omega
      have hk1 : (k : Int) < (l.length : Int) := by omega
      have e4 : IntKind.i64.wrap ((k : Int) + 1) = (k : Int) + 1 := IntWalk.i64_in _ (by omega)
      generalize l[k] = z at *
      clear ho2 r2 hq
      go_wp2_with fail
      refine (put_int_room d cap _ _ _ hchd hll).mono ?_
      rintro e w4 ⟨rfl, hch4, hk4⟩
      go_wp2_with fail
      go_roundw
      case rel => exact ⟨k + 1, by omega, by go_num, by rw [HT.out, i64L_append]; exact hch4, kp_trans hkp hk4⟩
      case measure => simp [intOf]; omega
    · obtain rfl : k = l.length := by omega
      rw [List.take_length] at hchd
      go_wp2_with fail
      go_ret
      have hdw := HDW.out
      exact ⟨d, rfl, Nat.le_of_eq hdw, hchd, hch.kp hkp (fun hh => by have h3 : c = d := hh; omega), kp_then hk2 hkp (fun i hi => .inr (by have h3 : i = d := hi; omega))⟩
end Go.Proofs.Ytpoimhjencpieaa
