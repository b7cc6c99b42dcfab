/- field.Split. -/
import Derived.Test.YthbphlbjjoddeaaDoorFdJ
namespace Go.Proofs.YthbphlbjjoddeaaDoor
open Go.RowKit
set_option linter.unusedVariables false
theorem bc_snoc (l : List UInt8) (c : UInt8) : Lib.byteCells l ++ [.int .u8 (c.toNat : Int)] = Lib.byteCells (l ++ [c]) := by simp [Lib.byteCells]
theorem bc_length (l : List UInt8) : (Lib.byteCells l).length = l.length := by simp [Lib.byteCells]
theorem splP_on {S : List UInt8} {k : Nat} {on : Bool} {cur : List UInt8} {done : List (List UInt8)} (h : SplP S k on cur done) (hk : 1 ≤ k) : on = true := by
  rcases h with ⟨h, _⟩ | ⟨_, h, _⟩
  · omega
  · exact h
theorem splP_off {S : List UInt8} {on : Bool} {cur : List UInt8} {done : List (List UInt8)} (h : SplP S 0 on cur done) : on = false ∧ cur = [] ∧ done = [] := by
  rcases h with ⟨_, h1, h2, h3⟩ | ⟨h, _⟩
  · exact ⟨h1, h2, h3⟩
  · omega
set_option maxRecDepth 100000 in
set_option maxHeartbeats 4000000 in
theorem split_ok (s : ByteArray) (hs : s.size ≤ 100000000) (w : World) :
    Calls Tryd.prog 17 #[.string s] w fun e w' => SplOut s.data.toList w e w' ∧ Grew w w' := by
  obtain ⟨i1, hj, hy0, hy1, hy2⟩ := info_parts info_strF
  have hsl : s.data.toList.length = s.size := by simp
  have HSL := Lib.hid hsl
  clear hsl
  have cC := count_ok s hs
  cases hS : splitF s.data.toList with
  | none =>
    simp only [hS, cntRes] at cC
    have CC := Lib.hid cC
    clear cC
    go_enter Tryd.func17, Tryd.ntmps17
    go_wp2_with (first | (go_at_call 48; refine (CC.out _).mono ?_; rintro e w' ⟨rfl, hw⟩; have hw := hw.symm; subst hw))
    go_ret2
    exact ⟨.inl ⟨hS, rfl⟩, Below.refl _ _⟩
  | some L =>
    simp only [hS, cntRes] at cC
    have CC := Lib.hid cC
    clear cC
    have HS := Lib.hid hS
    clear hS
    by_cases hbig : 4096 < L.length
    · have hb1 : (4096 : Int) < (L.length : Int) := by omega
      have HB := Lib.hid hbig
      clear hbig
      go_enter Tryd.func17, Tryd.ntmps17
      go_wp2_with (first | (go_at_call 48; refine (CC.out _).mono ?_; rintro e w' ⟨rfl, hw⟩; have hw := hw.symm; subst hw))
      go_ret2
      exact ⟨.inr ⟨L, HS.out, .inl ⟨HB.out, rfl⟩⟩, Below.refl _ _⟩
    · have hb1 : ¬ (4096 : Int) < (L.length : Int) := by omega
      have HB := Lib.hid (show L.length ≤ 4096 by omega)
      clear hbig
      obtain ⟨w1, hmk, hown1, hgrow1⟩ := run_make_own (P := Tryd.prog) w w.heap.size 22 9 i1 (.string ⟨#[]⟩) 1 Tryd.underlying22 hj hy0 hy1 .i64 .i64 L.length (by have := HB.out; rw [hy2]; omega) (by have := HB.out; unfold maxLen; omega) (Nat.le_refl _)
      have hg1 : Grew w w1 := (Below.refl _ w).grown hgrow1 (Nat.le_refl _) (fun j hj => by cases hj)
      clear hgrow1
      have hg1z := hg1.size
      go_enter Tryd.func17, Tryd.ntmps17
      go_wp2_with (first | (go_at_call 48; refine (CC.out _).mono ?_; rintro e w' ⟨rfl, hw⟩; have hw := hw.symm; subst hw))
      have hb0 : Lib.IsBuilderF 80 5 w.heap.size w1.heap.size (Lib.byteCells []) (w1.alloc (.cells #[.pointer none, .slice none 0 0] 80 (0, 0))) :=
        .inl ⟨hg1z, .slice none 0 0, heap_alloc_new w1 _, World.ownsRowF_nil _ _ _ _, by simp [Value.ownBlock]⟩
      have hown2 := hown1.alloc (.cells #[.pointer none, .slice none 0 0] 80 (0, 0))
      have hg2 : Grew w (w1.alloc (.cells #[.pointer none, .slice none 0 0] 80 (0, 0))) := hg1.alloc hg1z _
      have HBW := Lib.hid hg1z
      clear hmk hown1 hg1 CC hg1z
      obtain ⟨bb, hbb⟩ : ∃ bb, w1.heap.size = bb := ⟨_, rfl⟩
      have HBB := Lib.hid hbb
      rw [hbb] at hb0 ⊢
      clear hbb
      go_loopw [6, 8] (fun ov iv wr => ∃ (k : Nat) (on : Bool) (cur : List UInt8) (done : List (List UInt8)), k ≤ s.size ∧ cur.length ≤ k ∧ done.length ≤ k ∧ iv = .int .i64 k ∧ Hid (SplP s.data.toList k on cur done) ∧ wr.ownsRow w.heap.size 9 1 ov done.length (strL (txt done)) ∧ Lib.IsBuilderF 80 5 w.heap.size bb (Lib.byteCells cur) wr ∧ Grew w wr) (fun _ iv _ => s.size - (intOf iv).toNat)
      case atStart => exact ⟨0, false, [], [], Nat.zero_le _, Nat.le_refl _, Nat.le_refl _, rfl, Lib.hid (.inl ⟨rfl, rfl, rfl, rfl⟩), hown2, hb0, hg2⟩
      case round =>
        obtain ⟨k, on, cur, done, hk, hck, hdk, rfl, HP, hoo, hbu, hg⟩ := hrel
        have hgz := hg.size
        have hnb := row_notb hoo hbu (by decide)
        have HNB := Lib.hid hnb
        clear hnb
        by_cases hlt : k < s.size
        · have hk0 : (0 : Int) ≤ (k : Int) := by omega
          have hk1 : (k : Int) < (s.size : Int) := by omega
          have e1 : IntKind.i64.wrap ((k : Int) + 1) = ((k + 1 : Nat) : Int) := by rw [IntWalk.i64_in _ (by omega)]; omega
          have HLT := Lib.hid (show k < s.data.toList.length by rw [HSL.out]; exact hlt)
          have HK1 := Lib.hid hk1
          by_cases ha : ((s[k]'hlt).toNat : Int) = 124
          · have hc := Lib.hid (show s.data.toList[k]'HLT.out = 124 by rw [get_list s k hlt HLT.out]; exact u8_eq _ 124 (by omega) ha)
            by_cases hkz : k = 0
            · subst hkz
              obtain ⟨rfl, rfl, rfl⟩ := splP_off HP.out
              have HN := Lib.hid (splP_first HP.out HLT.out hc.out)
              go_wp2_with fail
              go_roundw
              case rel => exact ⟨1, true, [], [], by have := HK1.out; omega, by simp, by simp, by go_num, HN, hoo, hbu, hg⟩
              case measure => have h9 := HK1.out; simp [intOf]; omega
            · have hkp : (0 : Int) < (k : Int) := by omega
              obtain rfl := splP_on HP.out (by omega)
              have HN := Lib.hid (splP_bar HP.out HLT.out hc.out)
              have cS := Tryd.Builder_String_any_k w.heap.size bb cur wr hbu hgz
              have CS := Lib.hid cS
              clear cS
              go_wp2_with (first
                | (go_at_call 49; refine (CS.out).mono ?_; rintro e w2 ⟨rfl, hbu2, hbl2, hok2⟩; have hoo2 := row_others hoo hok2 (by decide) HNB.out; have hg2 : Grew w w2 := hg.trans hbl2; have hg2z := hg2.size)
                | (at_builtin; refine wpList_append_rd rfl (.tmp 38) (.tmp 40) 22 rfl w.heap.size 9 i1 (.string ⟨#[]⟩) 16 Tryd.underlying22 hj hy0 hy1 hy2 rfl _ done.length (strL (txt done)) rfl (hoo2.alloc _) (w2.heap.size + 1) (some ⟨w2.heap.size, 0, none⟩) 1 1 [.string ⟨cur.toArray⟩] rfl rfl (rd_new w2 9 #[.string ⟨cur.toArray⟩] (0, 0)) (one_cell rfl) (by unfold maxLen; omega) (by omega) (by simp; omega) ?_; intro v6 w6 hown6 hgrow6 hat6; have hbu6 := isb_kp hoo2 hbu2 (by decide) (by decide) (kp_grown (kp_alloc (kp_refl _ w2) _) hgrow6 (fun g h => .inl h)); have hg6 := grew_put hg2 hgrow6 (own_base hoo2))
                | (go_at_call 50; refine (reset_ok _ _ _ _ hbu6).mono ?_; rintro e w7 ⟨rfl, hbu7, hbl7, hkp7⟩))
              have hoo7 := ownsRow_kp hown6 hkp7 (fun g hg hj => row_notb hown6 hbu6 (by decide) (by rw [hg, hj]))
              rw [← txt_snoc] at hoo7
              have hg7 : Grew w w7 := hg6.trans hbl7
              go_roundw
              case rel => exact ⟨k + 1, true, [], done ++ [cur], by have := HK1.out; omega, by simp, by simp; omega, by go_num, HN, by rw [List.length_append]; exact hoo7, hbu7, hg7⟩
              case measure => have h9 := HK1.out; simp [intOf]; omega
          · have hda : (((s[k]'hlt).toNat : Int) == 124) = false := by simpa using ha
            have hdb : decide (((s[k]'hlt).toNat : Int) = 124) = false := decide_eq_false ha
            have hna := Lib.hid (show s.data.toList[k]'HLT.out ≠ 124 by rw [get_list s k hlt HLT.out]; intro h; exact ha (by rw [h]; rfl))
            have hkz : 1 ≤ k := by
              rcases Nat.eq_zero_or_pos k with h3 | h3
              · subst h3
                have := splP_not HLT.out hna.out
                rw [HS.out] at this; cases this
              · exact h3
            obtain rfl := splP_on HP.out hkz
            by_cases hbs : ((s[k]'hlt).toNat : Int) = 92
            · have hc92 := Lib.hid (show s.data.toList[k]'HLT.out = 92 by rw [get_list s k hlt HLT.out]; exact u8_eq _ 92 (by omega) hbs)
              have hend : k + 1 < s.size := by
                rcases Nat.lt_or_ge (k + 1) s.size with h3 | h3
                · exact h3
                · have := splP_cut HP.out (by rw [HSL.out]; omega) hc92.out
                  rw [HS.out] at this; cases this
              obtain ⟨m, hm⟩ : ∃ m, k + 1 = m := ⟨_, rfl⟩
              rw [hm] at e1 hend
              have hm0 : (0 : Int) ≤ (m : Int) := by omega
              have hm1 : (m : Int) < (s.size : Int) := by omega
              have HM := Lib.hid hm
              have e3 : IntKind.i64.wrap ((m : Int) + 1) = ((m + 1 : Nat) : Int) := by rw [IntWalk.i64_in _ (by omega)]; omega
              have HM1 := Lib.hid hm1
              have hsp : spec (s[m]'hend) = true := by
                cases hq : spec (s[m]'hend) with
                | true => rfl
                | false =>
                  subst hm
                  have := splP_bad HP.out (by rw [HSL.out]; exact hend) hc92.out (by rw [get_list s (k + 1) hend]; exact hq)
                  rw [HS.out] at this; cases this
              have HN : Hid (SplP s.data.toList (m + 1) true (cur ++ [s[m]'hend]) done) := Lib.hid (by
                subst hm
                exact splP_esc HP.out (by rw [HSL.out]; exact hend) hc92.out (by rw [get_list s (k + 1) hend]; exact hsp))
              have hcm : cur.length ≤ m := by omega
              have hdm : done.length ≤ m := by omega
              clear hsp hm
              have cW := Tryd.Builder_WriteByte_k w.heap.size bb (Lib.byteCells cur) ((s[m]'hend).toNat : Int) wr hbu (by rw [bc_length]; omega) hgz
              rw [bc_snoc] at cW
              have CW := Lib.hid cW
              clear cW
              go_wp2_with (first
                | (go_at_call 51; refine (CW.out).mono ?_; rintro e w7 ⟨rfl, hbu7, hbl7, hok7⟩))
              have hoo7 := row_others hoo hok7 (by decide) HNB.out
              have hg7 : Grew w w7 := hg.trans hbl7
              go_roundw
              case rel => exact ⟨m + 1, true, cur ++ [s[m]'hend], done, by have := HM1.out; omega, by simp; omega, by omega, by go_num, HN, hoo7, .inr hbu7, hg7⟩
              case measure => have h9 := HM1.out; have h8 := HM.out; simp [intOf]; omega
            · have hdc : (((s[k]'hlt).toNat : Int) == 92) = false := by simpa using hbs
              have hdd : decide (((s[k]'hlt).toNat : Int) = 92) = false := decide_eq_false hbs
              have HN := Lib.hid (splP_oth HP.out HLT.out hna.out (by rw [get_list s k hlt HLT.out]; intro h; exact hbs (by rw [h]; rfl)))
              have cW := Tryd.Builder_WriteByte_k w.heap.size bb (Lib.byteCells cur) ((s[k]'hlt).toNat : Int) wr hbu (by rw [bc_length]; omega) hgz
              rw [bc_snoc] at cW
              have CW := Lib.hid cW
              clear cW
              go_wp2_with (first
                | (go_at_call 51; refine (CW.out).mono ?_; rintro e w7 ⟨rfl, hbu7, hbl7, hok7⟩))
              have hoo7 := row_others hoo hok7 (by decide) HNB.out
              have hg7 : Grew w w7 := hg.trans hbl7
              go_roundw
              case rel => exact ⟨k + 1, true, cur ++ [s[k]'hlt], done, by have := HK1.out; omega, by simp; omega, by omega, by go_num, HN, hoo7, .inr hbu7, hg7⟩
              case measure => have h9 := HK1.out; simp [intOf]; omega
        · obtain rfl : k = s.size := by omega
          have hend := splP_end (S := s.data.toList) (by rw [HSL.out]; exact HP.out)
          rw [HS.out] at hend
          cases on
          · have hd0 : done = [] := by rcases HP.out with ⟨_, _, _, h⟩ | ⟨_, h, _⟩; exact h; cases h
            subst hd0
            injection hend with hend
            rw [if_neg (by simp)] at hend
            subst hend
            obtain ⟨Ao, co, rfl, _, _, _⟩ := own_rd hoo
            go_wp2_with fail
            go_ret2
            exact ⟨.inr ⟨[], HS.out, .inr ⟨by simp, _, rfl, hoo⟩⟩, hg⟩
          · injection hend with hend
            rw [if_pos rfl] at hend
            have hLp : (0 : Int) < (L.length : Int) := by rw [hend]; simp
            have HE := Lib.hid hend
            clear hend
            have cS := Tryd.Builder_String_any_k w.heap.size bb cur wr hbu hgz
            have CS := Lib.hid cS
            clear cS
            go_wp2_with (first
              | (go_at_call 49; refine (CS.out).mono ?_; rintro e w2 ⟨rfl, hbu2, hbl2, hok2⟩; have hoo2 := row_others hoo hok2 (by decide) HNB.out; have hg2 : Grew w w2 := hg.trans hbl2; have hg2z := hg2.size)
              | (at_builtin; refine wpList_append_rd rfl (.tmp 53) (.tmp 55) 22 rfl w.heap.size 9 i1 (.string ⟨#[]⟩) 16 Tryd.underlying22 hj hy0 hy1 hy2 rfl _ done.length (strL (txt done)) rfl (hoo2.alloc _) (w2.heap.size + 1) (some ⟨w2.heap.size, 0, none⟩) 1 1 [.string ⟨cur.toArray⟩] rfl rfl (rd_new w2 9 #[.string ⟨cur.toArray⟩] (0, 0)) (one_cell rfl) (by unfold maxLen; omega) (by omega) (by simp; omega) ?_; intro v6 w6 hown6 hgrow6 hat6; have hg6 := grew_put hg2 hgrow6 (own_base hoo2); obtain ⟨A6, c6, rfl, _, _, _⟩ := own_rd hown6))
            rw [← txt_snoc] at hown6
            go_ret2
            exact ⟨.inr ⟨L, HS.out, .inr ⟨HB.out, _, rfl, by rw [HE.out, List.length_append]; exact hown6⟩⟩, hg6⟩
end Go.Proofs.YthbphlbjjoddeaaDoor
