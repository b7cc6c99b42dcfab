/- field.Map at folkmoot/cmd.wide[int]$1. -/
import Derived.Laws.MakeOwn
import Derived.Test.YtfnkcahnkccekaaDoorCmA
namespace Go.Proofs.YtfnkcahnkccekaaDoor
open Go.RowKit
set_option linter.unusedVariables false
set_option maxRecDepth 100000 in
set_option maxHeartbeats 1000000 in
theorem mapWide_ok (A : Option Addr) (c : Nat) (l : List Int) (hl : l.length ≤ 1048576) (hp : ∀ x ∈ l, in64 x) (w : World) (hs : Std w) (hr : Rd w w.heap.size A (i64L l)) :
    Calls Tryd.prog 38 #[.slice A l.length c, .func (.func 39) #[] #[]] w fun e w' => ∃ v, e = .returned v ∧ w'.ownsRow w.heap.size 2 1 v l.length ((l.map id).map (Value.int .i64)) ∧ Grew w w' := by
  obtain ⟨i0, hi, hz0, hz1, hz2⟩ := info_parts (show (Tryd.prog.info? 2).map (fun i => (i.zero, i.size, i.bytes)) = some (some (.int .i64 0), 1, 8) by kernel_rfl)
  have HPP := Lib.hid hp
  clear hp
  obtain ⟨w1, hmk, hown1, hgrow1⟩ := run_make_own (P := Tryd.prog) w w.heap.size 74 2 i0 (.int .i64 0) 1 Tryd.underlying74 hi hz0 hz1 .i64 .i64 l.length (by rw [hz2]; omega) (by unfold maxLen; omega) (Nat.le_refl _)
  have hg1 : Grew w w1 := (Below.refl _ w).grown hgrow1 (Nat.le_refl _) (fun j hj => by cases hj)
  clear hgrow1
  go_enter Tryd.func38, Tryd.ntmps38
  go_wp2_with fail
  clear hmk
  go_loopw [5, 7, 13] (fun rv xv iv wr => ∃ k : Nat, k ≤ l.length ∧ iv = .int .i64 k ∧ wr.ownsRow w.heap.size 2 1 rv k (((l.take k).map id).map (Value.int .i64)) ∧ Grew w wr) (fun _ _ iv _ => l.length - (intOf iv).toNat)
  case atStart => exact ⟨0, Nat.zero_le _, rfl, by simpa using hown1, hg1⟩
  case round =>
    obtain ⟨k, hk, rfl, hown, hg⟩ := hrel
    by_cases hlt : k < l.length
    · obtain ⟨ad, rfl, hbl, hc0⟩ := rd_i64 (hr.below hg) k hlt
      have hk0 : (0 : Int) ≤ (k : Int) := by omega
      have hk1 : (k : Int) < (l.length : Int) := by omega
      have e1 : IntKind.i64.wrap ((k : Int) + 1) = ((k + 1 : Nat) : Int) := by rw [IntWalk.i64_in _ (by omega)]; omega
      have HK := Lib.hid hlt
      have HT : Hid (((l.take (k + 1)).map id).map (Value.int .i64) = ((l.take k).map id).map (Value.int .i64) ++ [(Value.int .i64) (id l[k])]) := Lib.hid (by rw [List.take_succ_eq_append_getElem hlt, List.map_append, List.map_append]; rfl)
      have hpx := HPP.out l[k] (List.getElem_mem hlt)
      have cC := wideFn_at l[k] hpx wr (hs.grew hg)
      generalize l[k] = x at *
      have CC := Lib.hid cC
      have HPX := Lib.hid hpx
      clear cC hpx
      go_wp2_with (first
        | (go_at_call 39; refine (CC.out).mono ?_; rintro e w3 ⟨rfl, hg3⟩; have hown3 := ownsRow_kp (S := fun _ => False) hown (kp_grew hg3) (fun g _ h => h); have hgg := grew_trans hg hg3; have hz3 := hgg.size)
        | (at_builtin; refine wpList_append_rd rfl (.tmp 17) (.tmp 21) 74 rfl w.heap.size 2 i0 (.int .i64 0) 8 Tryd.underlying74 hi hz0 hz1 hz2 rfl _ k _ rfl (hown3.alloc _) (w3.heap.size + 1) (some ⟨w3.heap.size, 0, none⟩) 1 1 [(Value.int .i64) (id x)] rfl rfl (rd_new w3 2 #[(Value.int .i64) (id x)] (0, 0)) (one_cell rfl) (by unfold maxLen; omega) (by omega) (by simp; omega) ?_; intro v6 w6 hown6 hgrow6 _; have hg6 := grew_put hgg hgrow6 (own_base hown3)))
      go_roundw
      case rel => exact ⟨k + 1, by have := HK.out; omega, by go_num, by rw [HT.out]; exact hown6, hg6⟩
      case measure => have h9 := HK.out; simp [intOf]; omega
    · obtain rfl : k = l.length := by omega
      rw [List.take_length] at hown
      go_wp2_with fail
      go_ret
      exact ⟨_, rfl, hown, hg⟩
end Go.Proofs.YtfnkcahnkccekaaDoor
