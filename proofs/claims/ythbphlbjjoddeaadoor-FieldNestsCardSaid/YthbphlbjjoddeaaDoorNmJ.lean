/- The reference's ParseNums. -/
import Derived.Test.YthbphlbjjoddeaaDoorNmI
namespace Go.Proofs.YthbphlbjjoddeaaDoor
open Go.RowKit
set_option linter.unusedVariables false
def longT (l : List (List UInt8)) : Bool := l.any (fun x => decide ((pnum x).2 ≠ 0))
theorem longT_snoc (l : List (List UInt8)) (x : List UInt8) : longT (l ++ [x]) = (longT l || decide ((pnum x).2 ≠ 0)) := by
  unfold longT; rw [List.any_append]; simp
theorem pnums_good2 {s : List UInt8} (h : s ≠ []) (hn : noForm (splitC s)) : pnums s = if longT (splitC s) then ([], 4) else (valsT (splitC s), 0) := by
  rw [pnums_good h hn]
  unfold worstT
  show (if (if longT (splitC s) = true then (4 : Int) else 0) = 0 then _ else _) = _
  cases longT (splitC s) <;> simp
theorem noForm_snoc {l : List (List UInt8)} {x : List UInt8} (h : noForm l) (hx : (pnum x).2 ≠ 2) : noForm (l ++ [x]) := by
  intro y hy
  rcases List.mem_append.1 hy with hy | hy
  · exact h y hy
  · obtain rfl : y = x := by simpa using hy
    exact hx
theorem txt_get (l : List (List UInt8)) (k : Nat) (h : k < l.length) (h' : k < (txt l).length) : (txt l)[k].data.toList = l[k] := by simp [txt]
theorem splitC_le (l : List UInt8) : ∀ x ∈ splitC l, x.length ≤ l.length := by
  induction l with
  | nil => intro x hx; simp [splitC] at hx; simp [hx]
  | cons c r ih =>
    intro x hx
    rw [splitC] at hx
    split at hx
    · rcases List.mem_cons.1 hx with rfl | hx
      · simp
      · have := ih x hx; simp; omega
    · split at hx
      · obtain rfl : x = [c] := by simpa using hx
        simp
      · rename_i y l h
        rw [h] at ih
        rcases List.mem_cons.1 hx with rfl | hx
        · have := ih y List.mem_cons_self; simp; omega
        · have := ih x (List.mem_cons_of_mem _ hx); simp; omega
set_option maxRecDepth 100000 in
set_option maxHeartbeats 1000000 in
theorem rparseNums_ok (s : ByteArray) (hs : s.size ≤ 1048576) (w : World) :
    Calls Tryd.prog 23 #[.string s] w fun e w' => (∃ v, e = .returned (.tuple #[v, .int .i64 (pnums s.data.toList).2]) ∧ w'.ownsRow w.heap.size 2 1 v (pnums s.data.toList).1.length (i64L (pnums s.data.toList).1)) ∧ Grew w w' := by
  by_cases hz : s.size = 0
  · obtain rfl := ba_empty hz
    go_enter Tryd.func23, Tryd.ntmps23
    go_wp2_with fail
    go_ret2
    exact ⟨⟨_, rfl, World.ownsRow_nil _ _ _ _⟩, grew_refl w⟩
  · obtain ⟨i0, hi, hz0, hz1, hz2⟩ := info_parts (show (Tryd.prog.info? 2).map (fun i => (i.zero, i.size, i.bytes)) = some (some (.int .i64 0), 1, 8) by kernel_rfl)
    have hp : 0 < s.size := by omega
    have hie := ba_some hp
    have hie2 := ba_some' hp
    have hne : Hid (s.data.toList ≠ []) := Lib.hid (fun e => by have := ba_len s; rw [e] at this; simp at this; omega)
    have CP := Lib.hid (parts_ok s hs w)
    have hNl := splitC_len s.data.toList
    have hEl := splitC_le s.data.toList
    rw [ba_len] at hNl
    have HEL := Lib.hid hEl
    clear hEl
    obtain ⟨ps, hps⟩ : ∃ ps, splitC s.data.toList = ps := ⟨_, rfl⟩
    rw [hps] at hNl
    have HPS := Lib.hid hps
    clear hps
    go_enter Tryd.func23, Tryd.ntmps23
    go_wp2_with (first | (go_at_call 54; refine (CP.out).mono ?_; rintro e w1 ⟨v, rfl, hrow, hg1⟩; rw [HPS.out] at hrow; obtain ⟨A1, c1, rfl, hpc, _, hrd⟩ := own_rd hrow))
    clear hrow hie hie2
    have hg1z := hg1.size
    go_loopw [5, 6, 7] (fun ov lv iv wr => ∃ k : Nat, k ≤ ps.length ∧ iv = .int .i64 k ∧ Hid (noForm (ps.take k)) ∧ lv = .bool (longT (ps.take k)) ∧ wr.ownsRow w1.heap.size 2 1 ov k (i64L (valsT (ps.take k))) ∧ Grew w1 wr) (fun _ _ iv _ => ps.length - (intOf iv).toNat)
    case atStart => exact ⟨0, Nat.zero_le _, rfl, Lib.hid (fun x hx => by simp at hx), rfl, World.ownsRow_nil _ _ _ _, grew_refl w1⟩
    case round =>
      obtain ⟨k, hk, rfl, HF, rfl, hown, hg⟩ := hrel
      have hgz := hg.size
      by_cases hlt : k < ps.length
      · obtain ⟨ad, rfl, hbl, hc0⟩ := rd_str (hrd.below hg) k (by rw [txt_length]; exact hlt)
        have hk0 : (0 : Int) ≤ (k : Int) := by omega
        have hk1 : (k : Int) < (ps.length : Int) := by omega
        have e1 : IntKind.i64.wrap ((k : Int) + 1) = ((k + 1 : Nat) : Int) := by rw [IntWalk.i64_in _ (by omega)]; omega
        have HK := Lib.hid hlt
        have hT : ps.take (k + 1) = ps.take k ++ [ps[k]] := List.take_succ_eq_append_getElem hlt
        have hxe : (txt ps)[k]'(by rw [txt_length]; exact hlt) = ⟨ps[k].toArray⟩ := by unfold txt; exact List.getElem_map _
        have hxl : ps[k].length ≤ 1048576 := by
          have := HEL.out ps[k] (by rw [HPS.out]; exact List.getElem_mem hlt)
          rw [ba_len] at this; omega
        have hmem : ps[k] ∈ ps := List.getElem_mem hlt
        rw [hxe] at hc0
        generalize ps[k] = x at *
        obtain ⟨xb, hxb⟩ : ∃ xb : ByteArray, xb = ⟨x.toArray⟩ := ⟨_, rfl⟩
        have hxb2 : xb.data.toList = x := by rw [hxb]
        rw [← hxb] at hc0
        have cR := rparse_ok xb (by rw [← ba_len, hxb2]; omega)
        unfold pnumRes at cR
        rw [hxb2] at cR
        have HTT := Lib.hid hT
        have HMEM := Lib.hid hmem
        clear hT hxe hxb hxb2 hmem
        obtain ⟨lg, hlg⟩ : ∃ lg, longT (ps.take k) = lg := ⟨_, rfl⟩
        rw [hlg]
        have HLG := Lib.hid hlg
        clear hlg
        have HGP : Hid (∀ w6, (wr.alloc (.cells #[.int .i64 (pnum x).1] 2)).grownBy w6 (Value.ownBlock u5) → Grew w1 w6) := Lib.hid (fun w6 h6 => grew_put hg h6 (own_base hown))
        rcases pnum_err x with he | he | he
        · rw [he] at cR
          have HV : Hid (i64L (valsT (ps.take (k + 1))) = i64L (valsT (ps.take k)) ++ [.int .i64 (pnum x).1]) := Lib.hid (by rw [HTT.out, valsT_snoc, i64L_append]; rfl)
          have HL : Hid (longT (ps.take (k + 1)) = lg) := Lib.hid (by rw [HTT.out, longT_snoc, he, HLG.out]; simp)
          have HN : Hid (noForm (ps.take (k + 1))) := Lib.hid (by rw [HTT.out]; exact noForm_snoc HF.out (by rw [he]; decide))
          have CR := Lib.hid cR
          clear cR he
          generalize (pnum x).1 = z at *
          cases lg
          all_goals
            go_wp2_with (first
            | (go_at_call 25; refine (CR.out _).mono ?_; rintro e w' ⟨rfl, hw⟩; have hw := hw.symm; subst hw)
            | (at_builtin; refine wpList_append_rd rfl (.tmp 36) (.tmp 38) 33 rfl w1.heap.size 2 i0 (.int .i64 0) 8 Tryd.underlying33 hi hz0 hz1 hz2 rfl _ k _ rfl (hown.alloc _) (wr.heap.size + 1) (some ⟨wr.heap.size, 0, none⟩) 1 1 [.int .i64 z] rfl rfl (rd_new wr 2 #[.int .i64 z] (0, 0)) (one_cell rfl) (by unfold maxLen; omega) (by omega) (by simp; omega) ?_; intro v6 w6 hown6 hgrow6 _; have hg6 := HGP.out w6 hgrow6))
            go_roundw
            case rel => exact ⟨k + 1, by have := HK.out; omega, by go_num, HN, by rw [HL.out], by rw [HV.out]; exact hown6, hg6⟩
            case measure => have h9 := HK.out; simp [intOf]; omega
        · rw [he] at cR
          have HB : Hid (pnums s.data.toList = ([], 2)) := Lib.hid (pnums_bad hne.out x (by rw [HPS.out]; exact HMEM.out) he)
          have CR := Lib.hid cR
          clear cR he HGP
          go_wp2_with (first
            | (go_at_call 25; refine (CR.out _).mono ?_; rintro e w' ⟨rfl, hw⟩; have hw := hw.symm; subst hw))
          go_ret2
          exact ⟨⟨_, by rw [HB.out]; rfl, by rw [HB.out]; exact World.ownsRow_nil _ _ _ _⟩, grew_trans hg1 hg⟩
        · rw [he] at cR
          have HV : Hid (i64L (valsT (ps.take (k + 1))) = i64L (valsT (ps.take k)) ++ [.int .i64 (pnum x).1]) := Lib.hid (by rw [HTT.out, valsT_snoc, i64L_append]; rfl)
          have HL : Hid (longT (ps.take (k + 1)) = true) := Lib.hid (by rw [HTT.out, longT_snoc, he]; simp)
          have HN : Hid (noForm (ps.take (k + 1))) := Lib.hid (by rw [HTT.out]; exact noForm_snoc HF.out (by rw [he]; decide))
          have CR := Lib.hid cR
          clear cR he
          generalize (pnum x).1 = z at *
          cases lg
          all_goals
            go_wp2_with (first
            | (go_at_call 25; refine (CR.out _).mono ?_; rintro e w' ⟨rfl, hw⟩; have hw := hw.symm; subst hw)
            | (at_builtin; refine wpList_append_rd rfl (.tmp 36) (.tmp 38) 33 rfl w1.heap.size 2 i0 (.int .i64 0) 8 Tryd.underlying33 hi hz0 hz1 hz2 rfl _ k _ rfl (hown.alloc _) (wr.heap.size + 1) (some ⟨wr.heap.size, 0, none⟩) 1 1 [.int .i64 z] rfl rfl (rd_new wr 2 #[.int .i64 z] (0, 0)) (one_cell rfl) (by unfold maxLen; omega) (by omega) (by simp; omega) ?_; intro v6 w6 hown6 hgrow6 _; have hg6 := HGP.out w6 hgrow6))
            go_roundw
            case rel => exact ⟨k + 1, by have := HK.out; omega, by go_num, HN, by rw [HL.out], by rw [HV.out]; exact hown6, hg6⟩
            case measure => have h9 := HK.out; simp [intOf]; omega
      · obtain rfl : k = ps.length := by omega
        rw [List.take_length] at HF hown ⊢
        have hpn := pnums_good2 hne.out (by rw [HPS.out]; exact HF.out)
        rw [HPS.out] at hpn
        have hvl : ps.length = (valsT ps).length := by simp [valsT]
        obtain ⟨lg, hlg⟩ : ∃ lg, longT ps = lg := ⟨_, rfl⟩
        rw [hlg] at hpn ⊢
        have HPN := Lib.hid hpn
        have HVL := Lib.hid hvl
        clear hpn hlg hvl
        obtain ⟨A5, c5, rfl, _, _, _⟩ := own_rd hown
        cases lg
        · go_wp2_with fail
          go_ret2
          exact ⟨⟨_, by rw [HPN.out]; rfl, by rw [HPN.out]; show World.ownsRow _ _ _ _ _ (valsT ps).length _; rw [← HVL.out]; exact ownsRow_base hown hg1z⟩, grew_trans hg1 hg⟩
        · go_wp2_with fail
          go_ret2
          exact ⟨⟨_, by rw [HPN.out]; rfl, by rw [HPN.out]; exact World.ownsRow_nil _ _ _ _⟩, grew_trans hg1 hg⟩
end Go.Proofs.YthbphlbjjoddeaaDoor
