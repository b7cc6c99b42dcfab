/- The reference's Split. -/
import Derived.Test.YthbphlbjjoddeaaDoorFdG
namespace Go.Proofs.YthbphlbjjoddeaaDoor
open Go.RowKit
set_option linter.unusedVariables false
/-- what Split hands back -/
def SplOut (S : List UInt8) (w : World) (e : Ending) (w' : World) : Prop :=
  (splitF S = none ∧ e = .returned (.tuple #[.slice none 0 0, .int .i64 2])) ∨
  ∃ l, splitF S = some l ∧ ((4096 < l.length ∧ e = .returned (.tuple #[.slice none 0 0, .int .i64 4])) ∨ (l.length ≤ 4096 ∧ ∃ v, e = .returned (.tuple #[v, .int .i64 0]) ∧ w'.ownsRow w.heap.size 9 1 v l.length (strL (txt l))))
set_option maxRecDepth 100000 in
set_option maxHeartbeats 4000000 in
theorem rsplit_ok (s : ByteArray) (hs : s.size ≤ 100000000) (w : World) :
    Calls Tryd.prog 20 #[.string s] w fun e w' => SplOut s.data.toList w e w' ∧ Grew w w' := by
  obtain ⟨i0, hi, hz0, hz1, hz2⟩ := info_parts info_u8
  obtain ⟨i1, hj, hy0, hy1, hy2⟩ := info_parts info_strF
  have hsl : s.data.toList.length = s.size := by simp
  have HSL := Lib.hid hsl
  clear hsl
  go_enter Tryd.func20, Tryd.ntmps20
  go_wp2_with fail
  go_loopw [4, 5, 6, 7] (fun ov cv bv iv wr => ∃ (k : Nat) (on : Bool) (cur : List UInt8) (done : List (List UInt8)), k ≤ s.size ∧ cur.length ≤ k ∧ done.length ≤ k ∧ iv = .int .i64 k ∧ bv = .bool on ∧ Hid (SplP s.data.toList k on cur done) ∧ wr.ownsRow w.heap.size 9 1 ov done.length (strL (txt done)) ∧ wr.ownsRow w.heap.size 5 1 cv cur.length (byL cur) ∧ Hid (∀ g, ov.ownBlock = some g → cv.ownBlock ≠ some g) ∧ Grew w wr) (fun _ _ _ iv _ => s.size - (intOf iv).toNat)
  case atStart => exact ⟨0, false, [], [], Nat.zero_le _, Nat.le_refl _, Nat.le_refl _, rfl, rfl, Lib.hid (.inl ⟨rfl, rfl, rfl, rfl⟩), World.ownsRow_nil _ _ _ _, World.ownsRow_nil _ _ _ _, Lib.hid (fun _ h => by cases h), Below.refl _ _⟩
  case round =>
    obtain ⟨k, on, cur, done, hk, hck, hdk, rfl, rfl, HP, hoo, hoc, hap, hg⟩ := hrel
    have hgz := hg.size
    by_cases hlt : k < s.size
    · have hk0 : (0 : Int) ≤ (k : Int) := by omega
      have hk1 : (k : Int) < (s.size : Int) := by omega
      have e1 : IntKind.i64.wrap ((k : Int) + 1) = ((k + 1 : Nat) : Int) := by rw [IntWalk.i64_in _ (by omega)]; omega
      have HLT := Lib.hid (show k < s.data.toList.length by rw [HSL.out]; exact hlt)
      have HK1 := Lib.hid hk1
      by_cases ha : ((s[k]'hlt).toNat : Int) = 124
      · have hc := Lib.hid (show s.data.toList[k]'HLT.out = 124 by rw [get_list s k hlt HLT.out]; exact u8_eq _ 124 (by omega) ha)
        cases on
        · have hk00 : k = 0 := by
            rcases HP.out with ⟨h, _⟩ | ⟨_, h, _⟩
            · exact h
            · cases h
          subst hk00
          have HN := Lib.hid (splP_first HP.out HLT.out hc.out)
          have hd0 : done = [] := by rcases HP.out with ⟨_, _, _, h⟩ | ⟨_, h, _⟩; exact h; cases h
          subst hd0
          go_wp2_with fail
          go_roundw
          case rel => exact ⟨1, true, [], [], by have := HK1.out; omega, by simp, by simp, by go_num, rfl, HN, hoo, World.ownsRow_nil _ _ _ _, Lib.hid (fun _ _ h => by cases h), hg⟩
          case measure => have h9 := HK1.out; simp [intOf]; omega
        · have HN := Lib.hid (splP_bar HP.out HLT.out hc.out)
          obtain ⟨Ac, cc, rfl, _, _, rc⟩ := own_rd hoc
          have hcv := conv_back (P := Tryd.prog) wr wr.heap.size 74 9 5 Ac cur.length cc cur rfl Tryd.underlying74 Tryd.underlying5 Tryd.underlying9 rc
          clear rc
          go_wp2_with (at_builtin; refine wpList_append_rd rfl (.tmp 32) (.tmp 35) 22 rfl w.heap.size 9 i1 (.string ⟨#[]⟩) 16 Tryd.underlying22 hj hy0 hy1 hy2 rfl _ done.length (strL (txt done)) rfl (hoo.alloc _) (wr.heap.size + 1) (some ⟨wr.heap.size, 0, none⟩) 1 1 [.string ⟨cur.toArray⟩] rfl rfl (rd_new wr 9 #[.string ⟨cur.toArray⟩] (0, 0)) (one_cell rfl) (by unfold maxLen; omega) (by omega) (by simp; omega) ?_; intro v6 w6 hown6 hgrow6 hat6)
          have hg6 := grew_put hg hgrow6 (own_base hoo)
          rw [← txt_snoc] at hown6
          go_roundw
          case rel => exact ⟨k + 1, true, [], done ++ [cur], by have := HK1.out; omega, by simp, by simp; omega, by go_num, rfl, HN, by rw [List.length_append]; exact hown6, World.ownsRow_nil _ _ _ _, Lib.hid (fun _ _ h => by cases h), hg6⟩
          case measure => have h9 := HK1.out; simp [intOf]; omega
      · have hda : (((s[k]'hlt).toNat : Int) == 124) = false := by simpa using ha
        have hdb : decide (((s[k]'hlt).toNat : Int) = 124) = false := decide_eq_false ha
        have hna := Lib.hid (show s.data.toList[k]'HLT.out ≠ 124 by rw [get_list s k hlt HLT.out]; intro h; exact ha (by rw [h]; rfl))
        cases on
        · have hk00 : k = 0 := by
            rcases HP.out with ⟨h, _⟩ | ⟨_, h, _⟩
            · exact h
            · cases h
          subst hk00
          have HN := Lib.hid (splP_not HLT.out hna.out)
          go_wp2_with fail
          go_ret2
          exact ⟨.inl ⟨HN.out, rfl⟩, hg⟩
        · by_cases hbs : ((s[k]'hlt).toNat : Int) = 92
          · have hc92 := Lib.hid (show s.data.toList[k]'HLT.out = 92 by rw [get_list s k hlt HLT.out]; exact u8_eq _ 92 (by omega) hbs)
            by_cases hend : k + 1 = s.size
            · have H1 := Lib.hid (splP_cut HP.out (by rw [HSL.out]; exact hend) hc92.out)
              have he1 : ((k + 1 : Nat) : Int) = (s.size : Int) := by omega
              rw [he1] at e1
              clear he1
              go_wp2_with fail
              go_ret2
              exact ⟨.inl ⟨H1.out, rfl⟩, hg⟩
            · have hlt2 : k + 1 < s.size := by omega
              obtain ⟨m, hm⟩ : ∃ m, k + 1 = m := ⟨_, rfl⟩
              rw [hm] at e1 hend hlt2
              have hm0 : (0 : Int) ≤ (m : Int) := by omega
              have hm1 : (m : Int) < (s.size : Int) := by omega
              have hm2 : ¬ (s.size : Int) ≤ (m : Int) := by omega
              have HM := Lib.hid hm
              have e3 : IntKind.i64.wrap ((m : Int) + 1) = ((m + 1 : Nat) : Int) := by rw [IntWalk.i64_in _ (by omega)]; omega
              have HM1 := Lib.hid hm1
              by_cases hsp : spec (s[m]'hlt2) = true
              · have HN : Hid (SplP s.data.toList (m + 1) true (cur ++ [s[m]'hlt2]) done) := Lib.hid (by
                  subst hm
                  exact splP_esc HP.out (by rw [HSL.out]; exact hlt2) hc92.out (by rw [get_list s (k + 1) hlt2]; exact hsp))
                have hor : ((s[m]'hlt2).toNat : Int) = 124 ∨ ((s[m]'hlt2).toNat : Int) = 92 := by
                  have h9 := hsp
                  simp only [spec, Bool.or_eq_true, beq_iff_eq] at h9
                  rcases h9 with h9 | h9
                  · exact .inl (by rw [h9]; rfl)
                  · exact .inr (by rw [h9]; rfl)
                have hcm : cur.length ≤ m := by omega
                have hdm : done.length ≤ m := by omega
                clear hsp hm
                rcases hor with hn | hn
                · have HNN := Lib.hid hn
                  go_wp2_with (at_builtin; refine wpList_append_rd rfl (.tmp 58) (.tmp 62) 74 rfl w.heap.size 5 i0 (.int .u8 0) 1 Tryd.underlying74 hi hz0 hz1 hz2 rfl _ cur.length (byL cur) rfl (hoc.alloc _) (wr.heap.size + 1) (some ⟨wr.heap.size, 0, none⟩) 1 1 [.int .u8 124] rfl rfl (rd_new wr 5 #[.int .u8 124] (0, 0)) (one_int _ _) (by unfold maxLen; omega) (by omega) (by simp; omega) ?_; intro v6 w6 hown6 hgrow6 hat6)
                  obtain ⟨hoo6, hap6⟩ := two_stepF hoo (apart_symmF hap.out) hgrow6 hat6
                  have hg6 := grew_put hg hgrow6 (own_base hoc)
                  go_roundw
                  case rel => exact ⟨m + 1, true, cur ++ [s[m]'hlt2], done, by have := HM1.out; omega, by simp; omega, by omega, by go_num, rfl, HN, hoo6, by rw [List.length_append, byL_append, show byL [s[m]'hlt2] = [.int .u8 124] by rw [← HNN.out]; rfl]; exact hown6, Lib.hid (apart_symmF hap6), hg6⟩
                  case measure => have h9 := HM1.out; have h8 := HM.out; simp [intOf]; omega
                · have HNN := Lib.hid hn
                  go_wp2_with (at_builtin; refine wpList_append_rd rfl (.tmp 58) (.tmp 62) 74 rfl w.heap.size 5 i0 (.int .u8 0) 1 Tryd.underlying74 hi hz0 hz1 hz2 rfl _ cur.length (byL cur) rfl (hoc.alloc _) (wr.heap.size + 1) (some ⟨wr.heap.size, 0, none⟩) 1 1 [.int .u8 92] rfl rfl (rd_new wr 5 #[.int .u8 92] (0, 0)) (one_int _ _) (by unfold maxLen; omega) (by omega) (by simp; omega) ?_; intro v6 w6 hown6 hgrow6 hat6)
                  obtain ⟨hoo6, hap6⟩ := two_stepF hoo (apart_symmF hap.out) hgrow6 hat6
                  have hg6 := grew_put hg hgrow6 (own_base hoc)
                  go_roundw
                  case rel => exact ⟨m + 1, true, cur ++ [s[m]'hlt2], done, by have := HM1.out; omega, by simp; omega, by omega, by go_num, rfl, HN, hoo6, by rw [List.length_append, byL_append, show byL [s[m]'hlt2] = [.int .u8 92] by rw [← HNN.out]; rfl]; exact hown6, Lib.hid (apart_symmF hap6), hg6⟩
                  case measure => have h9 := HM1.out; have h8 := HM.out; simp [intOf]; omega
              · have H1 : Hid (splitF s.data.toList = none) := Lib.hid (by
                  subst hm
                  exact splP_bad HP.out (by rw [HSL.out]; exact hlt2) hc92.out (by rw [get_list s (k + 1) hlt2]; simpa using hsp))
                have hn1 : ¬ ((s[m]'hlt2).toNat : Int) = 124 := fun h => hsp (by rw [u8_eq _ 124 (by omega) h]; rfl)
                have hn2 : ¬ ((s[m]'hlt2).toNat : Int) = 92 := fun h => hsp (by rw [u8_eq _ 92 (by omega) h]; rfl)
                have hf1 : (((s[m]'hlt2).toNat : Int) == 124) = false := by simpa using hn1
                have hf2 : (((s[m]'hlt2).toNat : Int) == 92) = false := by simpa using hn2
                have hf3 : decide (((s[m]'hlt2).toNat : Int) = 124) = false := decide_eq_false hn1
                have hf4 : decide (((s[m]'hlt2).toNat : Int) = 92) = false := decide_eq_false hn2
                have hf6 : (((s[m]'hlt2).toNat : Int) != 124) = true := by rw [bne, hf1]; rfl
                have hf7 : (((s[m]'hlt2).toNat : Int) != 92) = true := by rw [bne, hf2]; rfl
                have hf5 : decide ((s.size : Int) ≤ (m : Int)) = false := decide_eq_false hm2
                clear hsp hm
                go_wp2_with fail
                go_ret2
                exact ⟨.inl ⟨H1.out, rfl⟩, hg⟩
          · have hdc : (((s[k]'hlt).toNat : Int) == 92) = false := by simpa using hbs
            have hdd : decide (((s[k]'hlt).toNat : Int) = 92) = false := decide_eq_false hbs
            have HN := Lib.hid (splP_oth HP.out HLT.out hna.out (by rw [get_list s k hlt HLT.out]; intro h; exact hbs (by rw [h]; rfl)))
            go_wp2_with (at_builtin; refine wpList_append_rd rfl (.tmp 24) (.tmp 26) 74 rfl w.heap.size 5 i0 (.int .u8 0) 1 Tryd.underlying74 hi hz0 hz1 hz2 rfl _ cur.length (byL cur) rfl (hoc.alloc _) (wr.heap.size + 1) (some ⟨wr.heap.size, 0, none⟩) 1 1 [.int .u8 ((s[k]'hlt).toNat : Int)] rfl rfl (rd_new wr 5 #[.int .u8 ((s[k]'hlt).toNat : Int)] (0, 0)) (one_int _ _) (by unfold maxLen; omega) (by omega) (by simp; omega) ?_; intro v6 w6 hown6 hgrow6 hat6)
            obtain ⟨hoo6, hap6⟩ := two_stepF hoo (apart_symmF hap.out) hgrow6 hat6
            have hg6 := grew_put hg hgrow6 (own_base hoc)
            go_roundw
            case rel => exact ⟨k + 1, true, cur ++ [s[k]'hlt], done, by have := HK1.out; omega, by simp; omega, by omega, by go_num, rfl, HN, hoo6, by rw [List.length_append, byL_append]; exact hown6, Lib.hid (apart_symmF hap6), hg6⟩
            case measure => have h9 := HK1.out; simp [intOf]; omega
    · obtain rfl : k = s.size := by omega
      have hend := Lib.hid (splP_end (S := s.data.toList) (by rw [HSL.out]; exact HP.out))
      cases on
      · have hd0 : done = [] := by rcases HP.out with ⟨_, _, _, h⟩ | ⟨_, h, _⟩; exact h; cases h
        subst hd0
        obtain ⟨Ao, co, rfl, _, _, _⟩ := own_rd hoo
        go_wp2_with fail
        go_ret2
        exact ⟨.inr ⟨[], hend.out, .inr ⟨by simp, _, rfl, hoo⟩⟩, hg⟩
      · obtain ⟨Ac, cc, rfl, _, _, rc⟩ := own_rd hoc
        have hcv := conv_back (P := Tryd.prog) wr wr.heap.size 74 9 5 Ac cur.length cc cur rfl Tryd.underlying74 Tryd.underlying5 Tryd.underlying9 rc
        clear rc
        by_cases hbig : 4096 < done.length + 1
        · have hb1 : (4096 : Int) < (done.length : Int) + 1 := by omega
          have HBG := Lib.hid hbig
          clear hbig
          go_wp2_with (at_builtin; refine wpList_append_rd rfl (.tmp 65) (.tmp 68) 22 rfl w.heap.size 9 i1 (.string ⟨#[]⟩) 16 Tryd.underlying22 hj hy0 hy1 hy2 rfl _ done.length (strL (txt done)) rfl (hoo.alloc _) (wr.heap.size + 1) (some ⟨wr.heap.size, 0, none⟩) 1 1 [.string ⟨cur.toArray⟩] rfl rfl (rd_new wr 9 #[.string ⟨cur.toArray⟩] (0, 0)) (one_cell rfl) (by unfold maxLen; omega) (by omega) (by simp; omega) ?_; intro v6 w6 hown6 hgrow6 hat6; obtain ⟨A6, c6, rfl, _, _, _⟩ := own_rd hown6)
          have hg6 := grew_put hg hgrow6 (own_base hoo)
          go_ret2
          exact ⟨.inr ⟨done ++ [cur], hend.out, .inl ⟨by rw [List.length_append]; exact HBG.out, rfl⟩⟩, hg6⟩
        · have hb1 : ¬ (4096 : Int) < (done.length : Int) + 1 := by omega
          have HBG := Lib.hid (show done.length + 1 ≤ 4096 by omega)
          clear hbig
          go_wp2_with (at_builtin; refine wpList_append_rd rfl (.tmp 65) (.tmp 68) 22 rfl w.heap.size 9 i1 (.string ⟨#[]⟩) 16 Tryd.underlying22 hj hy0 hy1 hy2 rfl _ done.length (strL (txt done)) rfl (hoo.alloc _) (wr.heap.size + 1) (some ⟨wr.heap.size, 0, none⟩) 1 1 [.string ⟨cur.toArray⟩] rfl rfl (rd_new wr 9 #[.string ⟨cur.toArray⟩] (0, 0)) (one_cell rfl) (by unfold maxLen; omega) (by omega) (by simp; omega) ?_; intro v6 w6 hown6 hgrow6 hat6; obtain ⟨A6, c6, rfl, _, _, _⟩ := own_rd hown6)
          have hg6 := grew_put hg hgrow6 (own_base hoo)
          rw [← txt_snoc] at hown6
          go_ret2
          exact ⟨.inr ⟨done ++ [cur], hend.out, .inr ⟨by rw [List.length_append]; exact HBG.out, _, rfl, by rw [List.length_append]; exact hown6⟩⟩, hg6⟩
end Go.Proofs.YthbphlbjjoddeaaDoor
