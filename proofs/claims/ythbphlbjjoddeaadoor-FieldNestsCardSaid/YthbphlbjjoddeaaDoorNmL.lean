/- twice, doubled. -/
import Derived.Laws.MakeOwn
import Derived.Test.YthbphlbjjoddeaaDoorNmC
import Derived.Test.YthbphlbjjoddeaaDoorNmD
namespace Go.Proofs.YthbphlbjjoddeaaDoor
open Go.RowKit
set_option linter.unusedVariables false
def tw (n : Int) : Int := wrap64 (2 * n)
theorem twice_at (n : Int) (h : in64 n) (w : World) (hs : Std w) : Calls Tryd.prog 29 #[.int .i64 n] w fun e w' => e = .returned (.int .i64 (tw n)) ∧ Grew w w' := by
  clear hs
  unfold tw
  go_enter Tryd.func29, Tryd.ntmps29
  go_wp2_with fail
  go_ret
  exact ⟨rfl, grew_refl w⟩
set_option maxRecDepth 100000 in
theorem doubled_ok (A : Option Addr) (c : Nat) (l : List Int) (hl : l.length ≤ 1048576) (w : World) (hr : Rd w w.heap.size A (i64L l)) :
    Calls Tryd.prog 30 #[.slice A l.length c] w fun e w' => ∃ v, e = .returned v ∧ w'.ownsRow w.heap.size 2 1 v l.length ((l.map tw).map (Value.int .i64)) ∧ Grew w w' := by
  obtain ⟨i0, hi, hz0, hz1, hz2⟩ := info_parts (show (Tryd.prog.info? 2).map (fun i => (i.zero, i.size, i.bytes)) = some (some (.int .i64 0), 1, 8) by kernel_rfl)
  go_enter Tryd.func30, Tryd.ntmps30
  go_wp2_with fail
  go_loopw [3, 4] (fun rv iv wr => ∃ k : Nat, k ≤ l.length ∧ iv = .int .i64 k ∧ wr.ownsRow w.heap.size 2 1 rv k (((l.take k).map tw).map (Value.int .i64)) ∧ Grew w wr) (fun _ iv _ => l.length - (intOf iv).toNat)
  case atStart => exact ⟨0, Nat.zero_le _, rfl, World.ownsRow_nil _ _ _ _, grew_refl w⟩
  case round =>
    obtain ⟨k, hk, rfl, hown, hg⟩ := hrel
    have hgz := hg.size
    by_cases hlt : k < l.length
    · obtain ⟨ad, rfl, hbl, hc0⟩ := rd_i64 (hr.below hg) k hlt
      have hk0 : (0 : Int) ≤ (k : Int) := by omega
      have hk1 : (k : Int) < (l.length : Int) := by omega
      have e1 : IntKind.i64.wrap ((k : Int) + 1) = ((k + 1 : Nat) : Int) := by rw [IntWalk.i64_in _ (by omega)]; omega
      have HK := Lib.hid hlt
      have HT : Hid (((l.take (k + 1)).map tw).map (Value.int .i64) = ((l.take k).map tw).map (Value.int .i64) ++ [Value.int .i64 (wrap64 (2 * l[k]))]) := Lib.hid (by rw [List.take_succ_eq_append_getElem hlt, List.map_append, List.map_append]; rfl)
      generalize l[k] = x at *
      obtain ⟨y, hy⟩ : ∃ y, wrap64 (2 * x) = y := ⟨_, rfl⟩
      rw [hy] at HT
      go_wp2_with (at_builtin; refine wpList_append_rd rfl (.tmp 11) (.tmp 17) 33 rfl w.heap.size 2 i0 (.int .i64 0) 8 Tryd.underlying33 hi hz0 hz1 hz2 rfl _ k _ rfl (hown.alloc _) (wr.heap.size + 1) (some ⟨wr.heap.size, 0, none⟩) 1 1 [Value.int .i64 y] rfl rfl (rd_new wr 2 #[Value.int .i64 y] (0, 0)) (one_cell rfl) (by unfold maxLen; omega) (by omega) (by simp; omega) ?_; intro v6 w6 hown6 hgrow6 _; have hg6 := grew_put hg hgrow6 (own_base hown))
      go_roundw
      case rel => exact ⟨k + 1, by have := HK.out; omega, by go_num, by rw [HT.out]; exact hown6, hg6⟩
      case measure => have h9 := HK.out; simp [intOf]; omega
    · obtain rfl : k = l.length := by omega
      rw [List.take_length] at hown
      go_wp2_with fail
      go_ret
      exact ⟨_, rfl, hown, hg⟩
end Go.Proofs.YthbphlbjjoddeaaDoor
