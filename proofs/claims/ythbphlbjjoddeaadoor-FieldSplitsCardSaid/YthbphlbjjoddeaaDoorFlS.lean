/- FieldSplits. -/
import Derived.Test.YthbphlbjjoddeaaDoorFkn
import Derived.Test.YthbphlbjjoddeaaDoorFdH
namespace Go.Proofs.YthbphlbjjoddeaaDoor
open Go.RowKit
set_option linter.unusedVariables false
set_option maxRecDepth 100000 in
set_option maxHeartbeats 1000000 in
theorem fieldSplits_law (s : ByteArray) (hs : s.size ≤ 9223372036854775807) (w : World) (hS : Std w) :
    Calls Tryd.prog 4 #[.string s] w fun e w' => e = .returned (.bool true) ∧ Grew w w' := by
  have hg8 : 3 < w.heap.size := by obtain ⟨m, hm⟩ := hS.mx; exact cell_lt hm
  have CK := Lib.hid (fknown_ok w hS hg8)
  by_cases hbig : 9000 < s.size
  · have hbi : (9000 : Int) < (s.size : Int) := by omega
    clear hg8 hS
    go_enter Tryd.func4, Tryd.ntmps4
    go_wp2_with (first | (go_at_call 14; refine (CK.out).mono ?_; rintro e w1 ⟨rfl, hg1⟩))
    go_ret
    exact ⟨rfl, hg1⟩
  · have hbi : ¬ (9000 : Int) < (s.size : Int) := by omega
    have CA := Lib.hid (fun W => split_ok s (by omega) W)
    have CB := Lib.hid (fun W => rsplit_ok s (by omega) W)
    clear hg8 hS
    go_enter Tryd.func4, Tryd.ntmps4
    go_wp2_with (go_at_call 14; refine (CK.out).mono ?_; rintro e w1 ⟨rfl, hg1⟩)
    refine (CA.out w1).mono ?_
    rintro e w2 ⟨ho, hg2⟩
    have gg2 := grew_trans hg1 hg2
    cases hsp : splitF s.data.toList with
    | none =>
      have h1 : e = .returned (.tuple #[.slice none 0 0, .int .i64 2]) := by
        rcases ho with ⟨_, h⟩ | ⟨l, h, _⟩
        · exact h
        · rw [hsp] at h; cases h
      subst h1
      have HSP := Lib.hid hsp
      clear hsp ho hg1 hg2
      go_wp2_with fail
      refine (CB.out w2).mono ?_
      rintro e w3 ⟨ho, hg3⟩
      have gg3 := grew_trans gg2 hg3
      have h1 : e = .returned (.tuple #[.slice none 0 0, .int .i64 2]) := by
        rcases ho with ⟨_, h⟩ | ⟨l, h, _⟩
        · exact h
        · rw [HSP.out] at h; cases h
      subst h1
      clear ho gg2 hg3
      go_wp2_with fail
      refine (names_any none none 0 0 w3.heap.size w3.heap.size [] [] (by decide) (by decide) w3 (Rd.nil_ _ _ _) (Rd.nil_ _ _ _)).mono ?_
      rintro e w4 ⟨rfl, n, rfl⟩
      go_wp2_with fail
      go_ret
      exact ⟨rfl, grew_drewN gg3 n⟩
    | some L =>
      have HJ : Hid (joinF L = s.data.toList) := Lib.hid (join_split _ _ hsp)
      have hjl : (joinF L).length ≤ 9000 := by rw [HJ.out, ba_len]; omega
      by_cases hlong : 4096 < L.length
      · have pick : ∀ {e : Ending} {w w' : World}, SplOut s.data.toList w e w' → e = .returned (.tuple #[.slice none 0 0, .int .i64 4]) := fun {e w w'} ho => by
          rcases ho with ⟨h, _⟩ | ⟨l, h, h2⟩
          · rw [hsp] at h; cases h
          · rw [hsp] at h
            injection h with h
            subst h
            rcases h2 with ⟨_, h3⟩ | ⟨h3, _⟩
            · exact h3
            · omega
        have h1 := pick ho
        have PK := Lib.hid (fun e w w' h => pick (e := e) (w := w) (w' := w') h)
        subst h1
        clear pick hsp ho hg1 hg2 hlong hjl
        go_wp2_with fail
        refine (CB.out w2).mono ?_
        rintro e w3 ⟨ho, hg3⟩
        have gg3 := grew_trans gg2 hg3
        have h1 := PK.out _ _ _ ho
        subst h1
        clear ho gg2 hg3
        go_wp2_with fail
        refine (names_any none none 0 0 w3.heap.size w3.heap.size [] [] (by decide) (by decide) w3 (Rd.nil_ _ _ _) (Rd.nil_ _ _ _)).mono ?_
        rintro e w4 ⟨rfl, n, rfl⟩
        go_wp2_with fail
        go_ret
        exact ⟨rfl, grew_drewN gg3 n⟩
      · have pick : ∀ {e : Ending} {w w' : World}, SplOut s.data.toList w e w' → ∃ v, e = .returned (.tuple #[v, .int .i64 0]) ∧ w'.ownsRow w.heap.size 9 1 v L.length (strL (txt L)) := fun {e w w'} ho => by
          rcases ho with ⟨h, _⟩ | ⟨l, h, h2⟩
          · rw [hsp] at h; cases h
          · rw [hsp] at h
            injection h with h
            subst h
            rcases h2 with ⟨h3, _⟩ | ⟨_, h3⟩
            · omega
            · exact h3
        obtain ⟨v, rfl, hv⟩ := pick ho
        have PK := Lib.hid (fun e w w' h => pick (e := e) (w := w) (w' := w') h)
        obtain ⟨A2, c2, rfl, _, _, r2⟩ := own_rd hv
        have hll : (txt L).length = L.length := txt_length L
        have hL : L.length ≤ 4096 := by omega
        clear pick hsp ho hg1 hg2 hlong hv
        go_wp2_with fail
        refine (CB.out w2).mono ?_
        rintro e w3 ⟨ho, hg3⟩
        have gg3 := grew_trans gg2 hg3
        obtain ⟨v, rfl, hv⟩ := PK.out _ _ _ ho
        obtain ⟨A3, c3, rfl, _, _, r3⟩ := own_rd hv
        have r2' := r2.grew hg3
        clear ho gg2 hg3 r2 hv
        go_wp2_with fail
        have cN := names_any A2 A3 c2 c3 _ _ (txt L) (txt L) (by omega) (by omega) w3 r2' r3
        rw [hll, decide_eq_true rfl] at cN
        refine cN.mono ?_
        rintro e w4 ⟨rfl, n, hw⟩
        have hg4 : Grew w3 w4 := by rw [hw]; exact grew_drewN (grew_refl w3) n
        have gg4 := grew_trans gg3 hg4
        have r4 := r2'.grew hg4
        clear cN hw gg3 r2' r3 hg4
        go_wp2_with fail
        have hbt : bys (txt L) = L := by unfold bys txt; rw [List.map_map]; conv => rhs; rw [← List.map_id L]
                                         apply List.map_congr_left; intro x _; rfl
        have cJ := join_ok A2 c2 (txt L) (by omega) (by rw [hbt]; omega) w4 r4
        rw [hll, hbt, HJ.out, show (⟨s.data.toList.toArray⟩ : ByteArray) = s from by apply ByteArray.ext; simp] at cJ
        refine cJ.mono ?_
        rintro e w5 ⟨rfl, hg5⟩
        have gg5 := grew_trans gg4 hg5
        clear cJ hbt hll hL hjl hbi
        go_wp2_with fail
        go_ret
        exact ⟨rfl, gg5⟩
end Go.Proofs.YthbphlbjjoddeaaDoor
