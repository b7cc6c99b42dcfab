/- FieldLimits. -/
import Derived.Laws.OwnMore
import Derived.Test.YthbphlbjjoddeaaDoorFlJ
namespace Go.Proofs.YthbphlbjjoddeaaDoor
open Go.RowKit
set_option linter.unusedVariables false
theorem made_one (z : Value) (n : Nat) (hz : z.oneCell' = true) (hzc : z.cells = #[z]) : (madeCells z.cells (n * 1)).toList = List.replicate n z := by
  apply List.ext_getElem
  · simp [madeCells]
  · intro i h1 h2
    simp [madeCells, hzc]
    have : i % 1 = 0 := Nat.mod_one i
    rw [this]; rfl
/-- make([]T, n): a row of n zeros -/
theorem run_make_all {P : Program} (w : World) (t e : TypeId) (i : TypeInfo) (z : Value) (ht : P.underlying t = some (.slice e)) (hi : P.info? e = some i) (hz : i.zero = some z) (hsize : i.size = 1) (h1 : z.oneCell' = true) (hzc : z.cells = #[z])
    (kl kc : IntKind) (n : Nat) (hb : i.bytes * n ≤ 281474976710656) (h63 : n ≤ maxLen) :
    ∃ w', (Instr.makeSlice t (.int kl (n : Int)) (.int kc (n : Int))).run P w = .ok (.slice (some ⟨w.heap.size, 0, none⟩) n n) w' ∧ w'.ownsRow w.heap.size e 1 (.slice (some ⟨w.heap.size, 0, none⟩) n n) n (List.replicate n z) ∧ Grew w w' := by
  have h63' : (n : Int) ≤ 9223372036854775807 := by unfold maxLen at h63; omega
  have hb' : (i.bytes : Int) * (n : Int) ≤ 281474976710656 := by
    have h : ((i.bytes * n : Nat) : Int) ≤ 281474976710656 := by omega
    rwa [Int.natCast_mul] at h
  have hr := run_make (P := P) w t e i z ht hi hz kl kc n n (by omega) (Int.le_refl _) hb' h63'
  simp only [Int.toNat_natCast] at hr
  rw [hsize] at hr
  refine ⟨_, hr, ?_, grew_alloc (grew_refl w) _⟩
  have := World.ownsRow_lit (e := e) (size := 1) (base := w.heap.size) w (madeCells z.cells (n * 1)) n (Nat.le_refl _) h63 (by rw [size_madeCells])
  rwa [made_one z n h1 hzc] at this
theorem joinF_rep (k : Nat) (s : ByteArray) (hs : s.size ≤ 20) : (joinF (bys (List.replicate k s))).length ≤ k * 41 := by
  induction k with
  | zero => simp [bys, joinF]
  | succ k ih =>
    have h5 := fld_len s.data.toList
    rw [ba_len] at h5
    rw [List.replicate_succ, show bys (s :: List.replicate k s) = s.data.toList :: bys (List.replicate k s) from rfl, joinF_cons]
    simp only [List.length_cons, List.length_append, Nat.succ_mul]
    omega
def fillL (k i : Nat) (s : ByteArray) : List Value := strL (List.replicate i s) ++ List.replicate (k - i) (.string ⟨#[]⟩)
theorem fill_at (k i : Nat) (s : ByteArray) (h : i < k) : (fillL k i s)[i]? = some (.string ⟨#[]⟩) := by
  unfold fillL
  rw [List.getElem?_append_right (by simp [strL]), List.getElem?_replicate, if_pos (by simp [strL]; omega)]
theorem fill_set (k i : Nat) (s : ByteArray) (h : i < k) : (fillL k i s).set i (.string s) = fillL k (i + 1) s := by
  unfold fillL strL
  apply List.ext_getElem?
  intro j
  rw [List.getElem?_set]
  by_cases hj : i = j
  · subst hj
    rw [if_pos rfl, if_pos (by simp; omega), List.getElem?_append_left (by simp)]
    simp
  · rw [if_neg hj]
    by_cases h2 : j < i
    · rw [List.getElem?_append_left (by simp; omega), List.getElem?_append_left (by simp; omega)]
      simp [h2, Nat.lt_succ_of_lt h2]
    · rw [List.getElem?_append_right (by simp; omega), List.getElem?_append_right (by simp; omega)]
      simp [List.getElem?_replicate]
      congr 1
      apply propext; omega
theorem fill_full (k : Nat) (s : ByteArray) : fillL k k s = strL (List.replicate k s) := by simp [fillL]
theorem fill_zero (k : Nat) (s : ByteArray) : fillL k 0 s = List.replicate k (.string ⟨#[]⟩) := by simp [fillL, strL]
set_option maxRecDepth 100000 in
set_option maxHeartbeats 4000000 in
theorem fieldLimits_law (n : Int) (hn : 0 ≤ n ∧ n ≤ 255) (s : ByteArray) (hs : s.size ≤ 9223372036854775807) (w : World) (hS : Std w) :
    Calls Tryd.prog 6 #[.int .u8 n, .string s] w fun e w' => e = .returned (.bool true) ∧ Grew w w' := by
  have hg8 : 3 < w.heap.size := by obtain ⟨m, hm⟩ := hS.mx; exact cell_lt hm
  have CK := Lib.hid (fknown_ok w hS hg8)
  obtain ⟨i1, hj, hy0, hy1, hy2⟩ := info_parts info_strF
  by_cases hbig : 20 < s.size
  · have hbi : (20 : Int) < (s.size : Int) := by omega
    clear hg8 hS
    go_enter Tryd.func6, Tryd.ntmps6
    go_wp2_with (first | (go_at_call 14; refine (CK.out).mono ?_; rintro e w1 ⟨rfl, hg1⟩))
    go_ret
    exact ⟨rfl, hg1⟩
  · have hbi : ¬ (20 : Int) < (s.size : Int) := by omega
    have hs20 : s.size ≤ 20 := by omega
    obtain ⟨hn0, hn1⟩ := hn
    obtain ⟨k, hk⟩ : ∃ k : Nat, (k : Int) = 4094 + n % 5 := ⟨(4094 + n % 5).toNat, by omega⟩
    have hkb : 4094 ≤ k ∧ k ≤ 4098 := by omega
    have hkn : 4094 + n % 5 = (k : Int) := hk.symm
    have CM := Lib.hid (fun W => run_make_all (P := Tryd.prog) W 22 9 i1 (.string ⟨#[]⟩) Tryd.underlying22 hj hy0 hy1 rfl rfl .i64 .i64 k (by rw [hy2]; omega) (by unfold maxLen; omega))
    clear hg8 hS hbig hk
    go_enter Tryd.func6, Tryd.ntmps6
    go_wp2_with (go_at_call 14; refine (CK.out).mono ?_; rintro e w1 ⟨rfl, g1⟩; obtain ⟨w2, hmk, o2, gg⟩ := CM.out w1)
    have g2 := grew_trans g1 gg
    have g1s := g1.size
    clear CK g1 gg hmk hkn
    go_loopw [7] (fun iv wr => ∃ i : Nat, i ≤ k ∧ iv = .int .i64 i ∧ wr.ownsRow w1.heap.size 9 1 (.slice (some ⟨w1.heap.size, 0, none⟩) k k) k (fillL k i s) ∧ Grew w wr) (fun iv _ => k - (intOf iv).toNat)
    case atStart => exact ⟨0, Nat.zero_le _, rfl, by rw [fill_zero]; exact o2, g2⟩
    case round =>
      obtain ⟨i, hi, rfl, ho, hg⟩ := hrel
      by_cases hlt : i < k
      · have hk0 : (0 : Int) ≤ (i : Int) := by omega
        have hk1 : (i : Int) < (k : Int) := by omega
        have e1 : IntKind.i64.wrap ((i : Int) + 1) = ((i + 1 : Nat) : Int) := by rw [IntWalk.i64_in _ (by omega)]; omega
        have HK := Lib.hid hlt
        have hc := ho.cellAt i (by omega)
        rw [fill_at k i s hlt] at hc
        have hf := ho.frozenAt i
        obtain ⟨hst, hgs⟩ := ho.stored i (.string s)
        rw [fill_set k i s hlt] at hst
        have HST := Lib.hid hst
        have HGS := Lib.hid hgs
        clear hst hgs
        go_wp2_with fail
        go_roundw
        case rel => exact ⟨i + 1, by have := HK.out; omega, by go_num, HST.out, hg.grown HGS.out hg.size (fun j hj => by injection hj with hj; have := g1s; omega)⟩
        case measure => have h9 := HK.out; simp [intOf]; omega
      · obtain rfl : i = k := by omega
        rw [fill_full] at ho
        obtain ⟨A3, c3, hA3, _, _, r3⟩ := own_rd ho
        injection hA3 with h1 _ h2
        subst h1 h2
        have hjl := joinF_rep i s hs20
        have hrl : (List.replicate i s).length = i := by simp
        have hbl : (bys (List.replicate i s)).length = i := by simp [bys]
        obtain ⟨SA, hSA⟩ : ∃ SA : ByteArray, SA = ⟨(joinF (bys (List.replicate i s))).toArray⟩ := ⟨_, rfl⟩
        have cJ := join_ok (some ⟨w1.heap.size, 0, none⟩) i (List.replicate i s) (by omega) (by omega) wr r3
        rw [← hSA, hrl] at cJ
        have hsz : SA.size ≤ 100000000 := by rw [hSA]; show (joinF (bys (List.replicate i s))).toArray.size ≤ _; simp; omega
        have hspl : splitF SA.data.toList = some (bys (List.replicate i s)) := by rw [hSA]; exact split_join _
        have CJ := Lib.hid cJ
        have HSPL := Lib.hid hspl
        have HZ := Lib.hid hsz
        have HRL := Lib.hid hrl
        have HBL := Lib.hid hbl
        clear cJ hspl hSA hsz hjl hrl hbl
        go_wp2_with fail
        refine (CJ.out).mono ?_
        rintro e w3 ⟨rfl, gg⟩
        have g3 := grew_trans hg gg
        have r3 := r3.grew gg
        clear hg gg CJ ho
        go_wp2_with fail
        by_cases hbig2 : 4096 < i
        · have hbi2 : (4096 : Int) < (i : Int) := by omega
          refine (split_ok SA HZ.out w3).mono ?_
          rintro e w4 ⟨hh, gg⟩
          have g4 := grew_trans g3 gg
          have he : e = .returned (.tuple #[.slice none 0 0, .int .i64 4]) := by
            rcases hh with ⟨h1, _⟩ | ⟨l', h1, h2⟩
            · rw [HSPL.out] at h1; cases h1
            · rw [HSPL.out] at h1
              injection h1 with h1
              subst h1
              rcases h2 with ⟨_, h3⟩ | ⟨h3, _⟩
              · exact h3
              · rw [HBL.out] at h3; omega
          subst he
          clear hh gg g3
          go_wp2_with fail
          go_ret
          exact ⟨rfl, g4⟩
        · have hbi2 : ¬ (4096 : Int) < (i : Int) := by omega
          refine (split_some (l := bys (List.replicate i s)) HSPL.out (by rw [HBL.out]; omega) HZ.out w3).mono ?_
          rintro e w4 ⟨⟨v4, rfl, o4⟩, gg⟩
          have g4 := grew_trans g3 gg
          obtain ⟨A4, c4, rfl, _, _, r4⟩ := own_rd o4
          rw [bys_txt] at r4
          rw [HBL.out]
          have r3 := r3.grew gg
          clear g3 gg o4 hbig2
          go_wp2_with fail
          have cN := names_any A4 (some ⟨w1.heap.size, 0, none⟩) c4 i _ _ (List.replicate i s) (List.replicate i s) (by rw [HRL.out]; omega) (by rw [HRL.out]; omega) w4 r4 r3
          rw [decide_eq_true rfl, HRL.out] at cN
          refine cN.mono ?_
          clear cN
          rintro e w5 ⟨rfl, n5, hw⟩
          have gg : Grew w4 w5 := by rw [hw]; exact grew_drewN (grew_refl w4) n5
          have g5 := grew_trans g4 gg
          clear g4 gg hw
          go_wp2_with fail
          go_ret
          exact ⟨rfl, g5⟩
end Go.Proofs.YthbphlbjjoddeaaDoor
