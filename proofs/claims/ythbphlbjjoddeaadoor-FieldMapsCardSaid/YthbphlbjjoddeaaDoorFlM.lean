/- FieldMaps. -/
import Derived.Test.YthbphlbjjoddeaaDoorFkn
namespace Go.Proofs.YthbphlbjjoddeaaDoor
open Go.RowKit
set_option linter.unusedVariables false
theorem parseNum_numS (n : Int) (h : in64 n) (w : World) (hs : Std w) :
    Calls Tryd.prog 24 #[.string (numS n)] w fun e' w' => e' = .returned (.tuple #[.int .i64 n, .int .i64 0]) ∧ Grew w w' := by
  have hl := itoa_len h.1 h.2
  have := parseNum_ok (numS n) (by show (Lib.itoa n).toArray.size ≤ _; simp; omega) w hs
  rw [show (numS n).data.toList = Lib.itoa n from rfl, pnum_itoa h.1 h.2] at this
  exact this
theorem rnum_at (n : Int) (h : in64 n) (w : World) : Calls Tryd.prog 33 #[.int .i64 n] w fun e w' => e = .returned (.string (numS n)) ∧ Grew w w' := rnum_ok n h.1 h.2 w
set_option maxRecDepth 100000 in
set_option maxHeartbeats 4000000 in
theorem fieldMaps_law (A : Option Addr) (c : Nat) (l : List Int) (hp : ∀ x ∈ l, in64 x) (w : World) (hS : Std w) (hr : Rd w w.heap.size A (i64L l)) (hlm : l.length ≤ 9223372036854775807) :
    Calls Tryd.prog 8 #[.slice A l.length c] w fun e w' => e = .returned (.bool true) ∧ Grew w w' := by
  have hg8 : 3 < w.heap.size := by obtain ⟨m, hm⟩ := hS.mx; exact cell_lt hm
  have CK := Lib.hid (fknown_ok w hS hg8)
  by_cases hbig : 200 < l.length
  · have hbi : (200 : Int) < (l.length : Int) := by omega
    clear hg8 hS
    go_enter Tryd.func8, Tryd.ntmps8
    go_wp2_with (first | (go_at_call 14; refine (CK.out).mono ?_; rintro e w1 ⟨rfl, hg1⟩))
    go_ret
    exact ⟨rfl, hg1⟩
  · have hbi : ¬ (200 : Int) < (l.length : Int) := by omega
    have hl2 : l.length ≤ 200 := by omega
    have HPP := Lib.hid hp
    have HSS := Lib.hid hS
    have HR := Lib.hid hr
    clear hg8 hS hbig hp hr
    go_enter Tryd.func8, Tryd.ntmps8
    go_wp2_with (go_at_call 14; refine (CK.out).mono ?_; rintro e w1 ⟨rfl, g1⟩)
    refine (mapNum_ok A c l (by omega) HPP.out w1 (HSS.out.grew g1) (HR.out.grew g1)).mono ?_
    rintro e w2 ⟨v2, rfl, o2, gg⟩
    have g2 := grew_trans g1 gg
    obtain ⟨A2, c2, rfl, _, _, r2⟩ := own_rd o2
    have r2 : Rd w2 w2.heap.size A2 (strL (l.map numS)) := r2
    have HR2 := Lib.hid r2
    clear g1 gg o2 r2 CK
    go_wp2_with fail
    go_loopw [4] (fun iv wr => ∃ k : Nat, k ≤ l.length ∧ iv = .int .i64 k ∧ Grew w2 wr) (fun iv _ => l.length - (intOf iv).toNat)
    case atStart => exact ⟨0, Nat.zero_le _, rfl, grew_refl w2⟩
    case round =>
      obtain ⟨k, hk, rfl, hg⟩ := hrel
      have gw := grew_trans g2 hg
      by_cases hlt : k < l.length
      · have hk0 : (0 : Int) ≤ (k : Int) := by omega
        have hk1 : (k : Int) < (l.length : Int) := by omega
        have e1 : IntKind.i64.wrap ((k : Int) + 1) = ((k + 1 : Nat) : Int) := by rw [IntWalk.i64_in _ (by omega)]; omega
        have HK := Lib.hid hlt
        obtain ⟨ad, rfl, hbl, hc0⟩ := rd_i64 (HR.out.grew gw) k hlt
        obtain ⟨bd, rfl, hbl2, hc2⟩ := rd_str (HR2.out.grew hg) k (by rw [List.length_map]; exact hlt)
        rw [List.getElem_map] at hc2
        have hpx := HPP.out l[k] (List.getElem_mem hlt)
        generalize l[k] = x at *
        have CP := Lib.hid (parseNum_numS x hpx wr (HSS.out.grew gw))
        have CR := Lib.hid (fun W => rnum_at x hpx W)
        clear hpx
        generalize numS x = t at *
        go_wp2_with (go_at_call 24; refine (CP.out).mono ?_; rintro e w3 ⟨rfl, hg3⟩)
        have q1 : ∀ y : Gr w3, y.val.cell? (ad.add k) = some (.int .i64 x) := fun y => ((hg3.trans (y.ok.mono hg3.size)).cell (p := ad.add k) (by rw [blk_add]; exact hbl)).trans hc0
        have q2 : ∀ y : Gr w3, y.val.cell? (bd.add k) = some (.string t) := fun y => ((hg3.trans (y.ok.mono hg3.size)).cell (p := bd.add k) (by rw [blk_add]; exact hbl2)).trans hc2
        clear hc0 hc2
        go_wp2_with fail
        refine wp_region_grew (grew_refl w3) (by kernel_rfl) (by kernel_rfl) ?_
        repeat (go_big_quiet_step (first
          | (go_at_call 33; exact callG (CR.out _))))
        refine wpQuiet_nil ?_
        rintro _ ⟨⟨w4, hg4⟩, rfl⟩
        clear q1 q2
        go_wp2_with fail
        go_roundw
        case rel => exact ⟨k + 1, by have := HK.out; omega, by go_num, grew_trans (grew_trans hg hg3) hg4⟩
        case measure => have h9 := HK.out; simp [intOf]; omega
      · obtain rfl : k = l.length := by omega
        go_wp2_with fail
        go_ret
        exact ⟨rfl, gw⟩
end Go.Proofs.YthbphlbjjoddeaaDoor
