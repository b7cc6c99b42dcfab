/- quorum.By at []int: the map of the first of each, by tens and by itself (made by tools/mkby.py). -/
import Derived.Maps.OwnSet
import Derived.Maps.OwnOps
import Derived.Maps.Views
import Derived.IntWalk
import Derived.WalkArith
import Derived.Test.YtpoimhjencpieaaQuo
namespace Go.Proofs.Ytpoimhjencpieaa
open Go.RowKit Go.Maps
set_option linter.unusedVariables false
theorem int_law : Keyed Try.prog 3 := int_keyed Try.underlying3
theorem int_zero (w : World) : (zeroValue 3).run Try.prog w = .ok (.int .i64 0) w := by kernel_rfl
theorem make_hint (n : Nat) (w : World) : (Instr.makeMap 39 (some (.int .i64 (n : Int)))).run Try.prog w = .ok (.map (some w.heap.size)) (w.alloc (.map #[] 0)) := by
  simp [Instr.makeMap, run_underlying Try.underlying39, asInt, asIntOf, Result.andThen]
def byD {H : Type} (who : Int → Int) (l : List Int) : DataW H := l.foldl (fun D x => if Maps.has D (.int .i64 (who x)) = true then D else D.put (.int .i64 (who x)) (.lit (.int .i64 x))) (.map [])
theorem byD_yes {H : Type} {who : Int → Int} {l : List Int} {x : Int} (h : Maps.has (byD (H := H) who l) (.int .i64 (who x)) = true) : byD (H := H) who (l ++ [x]) = byD who l := by simp only [byD, List.foldl_append, List.foldl_cons, List.foldl_nil] at h ⊢; rw [if_pos h]
theorem byD_no {H : Type} {who : Int → Int} {l : List Int} {x : Int} (h : Maps.has (byD (H := H) who l) (.int .i64 (who x)) = false) : byD (H := H) who (l ++ [x]) = (byD who l).put (.int .i64 (who x)) (.lit (.int .i64 x)) := by simp only [byD, List.foldl_append, List.foldl_cons, List.foldl_nil] at h ⊢; rw [if_neg (by simp [h])]
theorem tdiv10 (x : Int) : (0 ≤ x → x.tdiv 10 = x / 10) ∧ (x < 0 → x.tdiv 10 = -((-x) / 10)) := by
  refine ⟨fun h => Int.tdiv_eq_ediv_of_nonneg h, fun h => ?_⟩
  have h1 : (-x).tdiv 10 = (-x) / 10 := Int.tdiv_eq_ediv_of_nonneg (by omega)
  rw [Int.neg_tdiv] at h1
  omega
theorem tdiv10_in {x : Int} (hx : -9223372036854775808 ≤ x ∧ x ≤ 9223372036854775807) : -9223372036854775808 ≤ x.tdiv 10 ∧ x.tdiv 10 ≤ 9223372036854775807 := by
  have := tdiv10 x
  omega
theorem tens_ok (x : Int) (hx : -9223372036854775808 ≤ x ∧ x ≤ 9223372036854775807) (w : World) : Calls Try.prog 30 #[.int .i64 x] w fun e w' => e = .returned (.int .i64 (x.tdiv 10)) ∧ w' = w := by
  have e1 : IntKind.i64.wrap (x.tdiv 10) = x.tdiv 10 := IntWalk.i64_in _ (tdiv10_in hx)
  go_enter Try.func30, Try.ntmps30
  go_wp2_with fail
  go_ret
  exact ⟨rfl, rfl⟩
theorem self_ok (x : Int) (w : World) : Calls Try.prog 68 #[.int .i64 x] w fun e w' => e = .returned (.int .i64 x) ∧ w' = w := by
  go_enter Try.func68, Try.ntmps68
  go_wp2_with fail
  go_ret
  exact ⟨rfl, rfl⟩
set_option maxRecDepth 100000 in
set_option maxHeartbeats 1000000 in
theorem by_tens_ok {H : Type} (A : Option Addr) (c : Nat) (l : List Int) (hz : l.length ≤ 1048576) (hi : ∀ x ∈ l, -9223372036854775808 ≤ x ∧ x ≤ 9223372036854775807) (w : World) (hr : Rd w w.heap.size A (i64L l)) :
    Calls Try.prog 29 #[.slice A l.length c, .func (.func 30) #[] #[]] w fun e w' => e = .returned (.map (some w.heap.size)) ∧ w'.ownsMap Try.prog 3 (plainElem Try.prog 3) w.heap.size l.length (byD (H := H) (fun x : Int => x.tdiv 10) l) ∧ Grew w w' := by
  have hmm := fun w => make_hint l.length w
  have hlc : (0 : Int) ≤ (l.length : Int) := by omega
  go_enter Try.func29, Try.ntmps29
  go_wp2_with fail
  go_loopw [16] (fun iv wr => ∃ i : Nat, i ≤ l.length ∧ iv = .int .i64 i ∧ wr.ownsMap Try.prog 3 (plainElem Try.prog 3) w.heap.size i (byD (H := H) (fun x : Int => x.tdiv 10) (l.take i)) ∧ Grew w wr) (fun i _ => l.length - (intOf i).toNat)
  case atStart => exact ⟨0, Nat.zero_le _, rfl, World.ownsMap_made _ _ _ _, (Below.refl _ _).alloc (Nat.le_refl _) _⟩
  case round =>
    obtain ⟨i, hil, rfl, hown, hg⟩ := hrel
    by_cases hlt : i < l.length
    · obtain ⟨ad, rfl, hbl, hc0⟩ := rd_i64 (hr.below hg) i hlt
      have hzr := hi _ (List.getElem_mem hlt)
      have hts : l.take (i + 1) = l.take i ++ [l[i]] := by rw [List.take_succ_eq_append_getElem hlt]
      have HTS := Lib.hid hts
      clear hts
      generalize l[i] = z at *
      have e4 : IntKind.i64.wrap ((i : Int) + 1) = (i : Int) + 1 := IntWalk.i64_in _ (by omega)
      obtain ⟨k, hk⟩ : ∃ k, (fun x : Int => x.tdiv 10) z = k := ⟨_, rfl⟩
      have hkr : -9223372036854775808 ≤ k ∧ k ≤ 9223372036854775807 := by rw [← hk]; exact tdiv10_in hzr
      have cW : ∀ W, Calls Try.prog 30 #[.int .i64 z] W fun e w' => e = .returned (.int .i64 k) ∧ w' = W := fun W => by rw [← hk]; exact tens_ok _ hzr _
      have hkey : keyOf Try.prog 3 (.int .i64 k) = some (.int .i64 k) := keyOf_int_mk Try.underlying3 (WalkArith.wf_i64 hkr)
      have HK2 := Lib.hid (show z.tdiv 10 = k from hk)
      have CW := Lib.hid cW
      have HK := Lib.hid hk
      clear cW hk
      obtain ⟨bb, hbb⟩ : ∃ bb, Maps.has (byD (H := H) (fun x : Int => x.tdiv 10) (l.take i)) (.int .i64 k) = bb := ⟨_, rfl⟩
      cases bb
      · go_wp2_with (first
          | (go_at_call 30; refine (CW.out _).mono ?_; rintro e w4 ⟨rfl, rfl⟩)
          | (at_lookup; refine wpList_lookup_own_ok_int _ rfl _ _ 39 rfl 3 3 .i64 int_law Try.underlying39 Try.underlying3 (int_zero _) w.heap.size i _ rfl hown _ _ rfl hkey ?_; intro c hat hwc)
          | (at_mapUpdate; refine wpList_mapUpdate_own _ rfl _ _ _ 39 rfl 3 3 int_law Try.underlying39 _ w.heap.size i _ rfl hown (by unfold maxLen; omega) _ _ _ rfl rfl hkey _ [] (plainElem_int Try.underlying3 (WalkArith.wf_i64 hzr)) ?_; intro w1 hown1 hgrow1))
        go_roundw
        case rel => exact ⟨i + 1, by omega, by go_num, by rw [HTS.out, byD_no (by simpa only [HK2.out] using hbb)]; have hk2 := HK2.out; simp only [hk2] at hown1 ⊢; exact hown1, hg.grown hgrow1 hg.size (fun j hj => by cases hj; exact Nat.le_refl _)⟩
        case measure => simp [intOf]; omega
      · go_wp2_with (first
          | (go_at_call 30; refine (CW.out _).mono ?_; rintro e w4 ⟨rfl, rfl⟩)
          | (at_lookup; refine wpList_lookup_own_ok_int _ rfl _ _ 39 rfl 3 3 .i64 int_law Try.underlying39 Try.underlying3 (int_zero _) w.heap.size i _ rfl hown _ _ rfl hkey ?_; intro c hat hwc))
        go_roundw
        case rel => exact ⟨i + 1, by omega, by go_num, by rw [HTS.out, byD_yes (by simpa only [HK2.out] using hbb)]; exact hown.mono (by omega), hg⟩
        case measure => simp [intOf]; omega
    · obtain rfl : i = l.length := by omega
      rw [List.take_length] at hown
      go_wp2_with fail
      go_ret
      exact ⟨rfl, hown, hg⟩
set_option maxRecDepth 100000 in
set_option maxHeartbeats 1000000 in
theorem by_self_ok {H : Type} (A : Option Addr) (c : Nat) (l : List Int) (hz : l.length ≤ 1048576) (hi : ∀ x ∈ l, -9223372036854775808 ≤ x ∧ x ≤ 9223372036854775807) (w : World) (hr : Rd w w.heap.size A (i64L l)) :
    Calls Try.prog 29 #[.slice A l.length c, .func (.func 68) #[] #[]] w fun e w' => e = .returned (.map (some w.heap.size)) ∧ w'.ownsMap Try.prog 3 (plainElem Try.prog 3) w.heap.size l.length (byD (H := H) (fun x : Int => x) l) ∧ Grew w w' := by
  have hmm := fun w => make_hint l.length w
  have hlc : (0 : Int) ≤ (l.length : Int) := by omega
  go_enter Try.func29, Try.ntmps29
  go_wp2_with fail
  go_loopw [16] (fun iv wr => ∃ i : Nat, i ≤ l.length ∧ iv = .int .i64 i ∧ wr.ownsMap Try.prog 3 (plainElem Try.prog 3) w.heap.size i (byD (H := H) (fun x : Int => x) (l.take i)) ∧ Grew w wr) (fun i _ => l.length - (intOf i).toNat)
  case atStart => exact ⟨0, Nat.zero_le _, rfl, World.ownsMap_made _ _ _ _, (Below.refl _ _).alloc (Nat.le_refl _) _⟩
  case round =>
    obtain ⟨i, hil, rfl, hown, hg⟩ := hrel
    by_cases hlt : i < l.length
    · obtain ⟨ad, rfl, hbl, hc0⟩ := rd_i64 (hr.below hg) i hlt
      have hzr := hi _ (List.getElem_mem hlt)
      have hts : l.take (i + 1) = l.take i ++ [l[i]] := by rw [List.take_succ_eq_append_getElem hlt]
      have HTS := Lib.hid hts
      clear hts
      generalize l[i] = z at *
      have e4 : IntKind.i64.wrap ((i : Int) + 1) = (i : Int) + 1 := IntWalk.i64_in _ (by omega)
      obtain ⟨k, hk⟩ : ∃ k, (fun x : Int => x) z = k := ⟨_, rfl⟩
      have hkr : -9223372036854775808 ≤ k ∧ k ≤ 9223372036854775807 := by rw [← hk]; exact hzr
      have cW : ∀ W, Calls Try.prog 68 #[.int .i64 z] W fun e w' => e = .returned (.int .i64 k) ∧ w' = W := fun W => by rw [← hk]; exact self_ok _ _
      have hkey : keyOf Try.prog 3 (.int .i64 k) = some (.int .i64 k) := keyOf_int_mk Try.underlying3 (WalkArith.wf_i64 hkr)
      have HK2 := Lib.hid (show z = k from hk)
      have CW := Lib.hid cW
      have HK := Lib.hid hk
      clear cW hk
      obtain ⟨bb, hbb⟩ : ∃ bb, Maps.has (byD (H := H) (fun x : Int => x) (l.take i)) (.int .i64 k) = bb := ⟨_, rfl⟩
      cases bb
      · go_wp2_with (first
          | (go_at_call 68; refine (CW.out _).mono ?_; rintro e w4 ⟨rfl, rfl⟩)
          | (at_lookup; refine wpList_lookup_own_ok_int _ rfl _ _ 39 rfl 3 3 .i64 int_law Try.underlying39 Try.underlying3 (int_zero _) w.heap.size i _ rfl hown _ _ rfl hkey ?_; intro c hat hwc)
          | (at_mapUpdate; refine wpList_mapUpdate_own _ rfl _ _ _ 39 rfl 3 3 int_law Try.underlying39 _ w.heap.size i _ rfl hown (by unfold maxLen; omega) _ _ _ rfl rfl hkey _ [] (plainElem_int Try.underlying3 (WalkArith.wf_i64 hzr)) ?_; intro w1 hown1 hgrow1))
        go_roundw
        case rel => exact ⟨i + 1, by omega, by go_num, by rw [HTS.out, byD_no (by simpa only [HK2.out] using hbb)]; have hk2 := HK2.out; simp only [hk2] at hown1 ⊢; exact hown1, hg.grown hgrow1 hg.size (fun j hj => by cases hj; exact Nat.le_refl _)⟩
        case measure => simp [intOf]; omega
      · go_wp2_with (first
          | (go_at_call 68; refine (CW.out _).mono ?_; rintro e w4 ⟨rfl, rfl⟩)
          | (at_lookup; refine wpList_lookup_own_ok_int _ rfl _ _ 39 rfl 3 3 .i64 int_law Try.underlying39 Try.underlying3 (int_zero _) w.heap.size i _ rfl hown _ _ rfl hkey ?_; intro c hat hwc))
        go_roundw
        case rel => exact ⟨i + 1, by omega, by go_num, by rw [HTS.out, byD_yes (by simpa only [HK2.out] using hbb)]; exact hown.mono (by omega), hg⟩
        case measure => simp [intOf]; omega
    · obtain rfl : i = l.length := by omega
      rw [List.take_length] at hown
      go_wp2_with fail
      go_ret
      exact ⟨rfl, hown, hg⟩
end Go.Proofs.Ytpoimhjencpieaa
