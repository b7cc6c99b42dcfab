/- The reference's Nums, parts, ParseNums. -/
import Derived.RegionTactic
import Derived.BigRegion
import Derived.Test.YtaeopobofmpioaaGreatDoorZao
import Derived.Test.YtaeopobofmpioaaGreatDoorZax
import Derived.Test.YtaeopobofmpioaaGreatDoorZbc
import Derived.Test.YtaeopobofmpioaaGreatDoorZai
import Derived.Test.YtaeopobofmpioaaGreatDoorZaw
import Derived.Test.YtaeopobofmpioaaGreatDoorZaz
namespace Go.Proofs.YtaeopobofmpioaaGreatDoor
set_option linter.unusedSimpArgs false
set_option linter.unusedVariables false
open Go.RowKit
set_option linter.unusedVariables false
theorem nums_snoc (l : List Int) (n : Int) (h : l ≠ []) : nums (l ++ [n]) = nums l ++ 44 :: Lib.itoa n := by
  unfold nums
  cases l with
  | nil => exact absurd rfl h
  | cons x l =>
    simp only [List.cons_append, List.map_cons]
    rw [joinC_44, joinC_44]
    simp
theorem nums_one (n : Int) : nums [n] = Lib.itoa n := rfl
theorem nums_take_le (l : List Int) (k : Nat) (h : ∀ x ∈ l, in64 x) : (nums (l.take k)).length ≤ l.length * 21 := by
  have h1 := nums_len (l.take k) (fun x hx => h x (List.mem_of_mem_take hx))
  have h2 : (l.take k).length ≤ l.length := by rw [List.length_take]; omega
  have h3 : (l.take k).length * 21 ≤ l.length * 21 := Nat.mul_le_mul_right 21 h2
  omega
set_option maxRecDepth 100000 in
set_option maxHeartbeats 1000000 in
theorem rnums_ok (A : Option Addr) (c : Nat) (l : List Int) (hl : l.length ≤ 1048576) (hp : ∀ x ∈ l, in64 x) (w : World) (hr : Rd w w.heap.size A (i64L l)) :
    Calls Tryz.prog 158 #[.slice A l.length c] w fun e w' => e = .returned (.string ⟨(nums l).toArray⟩) ∧ Grew w w' := by
  have HPP := Lib.hid hp
  clear hp
  go_enter Tryz.func158, Tryz.ntmps158
  go_wp2_with fail
  go_loopw [3, 4] (fun sv iv wr => ∃ (k : Nat) (t : List UInt8), k ≤ l.length ∧ iv = .int .i64 k ∧ sv = .string ⟨t.toArray⟩ ∧ Hid (t = nums (l.take k)) ∧ Grew w wr) (fun _ iv _ => l.length - (intOf iv).toNat)
  case atStart => exact ⟨0, [], Nat.zero_le _, rfl, rfl, Lib.hid rfl, grew_refl w⟩
  case round =>
    obtain ⟨k, t, hk, rfl, rfl, HT, hg⟩ := hrel
    by_cases hlt : k < l.length
    · obtain ⟨ad, rfl, hbl, hc0⟩ := rd_i64 (hr.below hg) k hlt
      have hk0 : (0 : Int) ≤ (k : Int) := by omega
      have hk1 : (k : Int) < (l.length : Int) := by omega
      have e1 : IntKind.i64.wrap ((k : Int) + 1) = ((k + 1 : Nat) : Int) := by rw [IntWalk.i64_in _ (by omega)]; omega
      have HK := Lib.hid hlt
      have htl : t.length ≤ 22020096 := by
        have := nums_take_le l k HPP.out
        rw [HT.out]; omega
      have HN : Hid (l.take (k + 1) = l.take k ++ [l[k]]) := Lib.hid (List.take_succ_eq_append_getElem hlt)
      have hpx := HPP.out l[k] (List.getElem_mem hlt)
      have cR := fun W => rnum_ok l[k] hpx.1 hpx.2 W
      have hil := itoa_len hpx.1 hpx.2
      generalize l[k] = x at *
      have CR := Lib.hid cR
      clear cR hpx
      by_cases hz : k = 0
      · have hkn : ¬ (0 : Int) < (k : Int) := by omega
        have happ := ba_app t (Lib.itoa x)
        have HR : Hid (t ++ Lib.itoa x = nums (l.take (k + 1))) := Lib.hid (by rw [HN.out, HT.out, hz]; rfl)
        clear hz
        go_wp2_with (first | (go_at_call 77; refine (CR.out _).mono ?_; rintro e w3 ⟨rfl, hg3⟩))
        go_roundw
        case rel => exact ⟨k + 1, _, by have := HK.out; omega, by go_num, rfl, HR, grew_trans hg hg3⟩
        case measure => have h9 := HK.out; simp [intOf]; omega
      · have hkp : (0 : Int) < (k : Int) := by omega
        have hne : l.take k ≠ [] := by
          intro e
          have h9 : (l.take k).length = k := by rw [List.length_take]; omega
          rw [e] at h9
          exact hz h9.symm
        have happ1 := ba_app t [44]
        have happ := ba_app (t ++ [44]) (Lib.itoa x)
        have HR : Hid ((t ++ [44]) ++ Lib.itoa x = nums (l.take (k + 1))) := Lib.hid (by
          rw [HN.out, HT.out, nums_snoc _ _ hne]
          exact List.append_assoc _ _ _)
        clear hne
        have htl2 : (t ++ [44]).length ≤ 22020097 := by rw [List.length_append]; simp; omega
        go_wp2_with (first | (go_at_call 77; refine (CR.out _).mono ?_; rintro e w3 ⟨rfl, hg3⟩))
        go_roundw
        case rel => exact ⟨k + 1, _, by have := HK.out; omega, by go_num, rfl, Lib.hid ((List.append_assoc _ _ _).symm.trans HR.out), grew_trans hg hg3⟩
        case measure => have h9 := HK.out; simp [intOf]; omega
    · obtain rfl : k = l.length := by omega
      rw [List.take_length] at HT
      go_wp2_with fail
      go_ret
      exact ⟨by rw [HT.out]; rfl, hg⟩
/-! parts: between commas -/
def parP (S : List UInt8) (k : Nat) (done : List (List UInt8)) (cur : List UInt8) : Prop := ∀ r, splitC (S.take k ++ r) = done ++ (match splitC r with | [] => [cur] | x :: l => (cur ++ x) :: l)
theorem parP_0 (S : List UInt8) : parP S 0 [] [] := by
  intro r
  cases h : splitC r with
  | nil => exact absurd h (splitC_ne r)
  | cons x l => simp [h]
theorem parP_comma {S : List UInt8} {k : Nat} {done : List (List UInt8)} {cur : List UInt8} (h : parP S k done cur) (hk : k < S.length) (hc : S[k] = 44) : parP S (k + 1) (done ++ [cur]) [] := by
  intro r
  rw [List.take_succ_eq_append_getElem hk, hc, List.append_assoc, h]
  show done ++ (match splitC (44 :: r) with | [] => [cur] | x :: l => (cur ++ x) :: l) = _
  rw [splitC, if_pos rfl]
  cases h2 : splitC r with
  | nil => exact absurd h2 (splitC_ne r)
  | cons x l => simp
theorem parP_other {S : List UInt8} {k : Nat} {done : List (List UInt8)} {cur : List UInt8} (h : parP S k done cur) (hk : k < S.length) (hc : S[k] ≠ 44) : parP S (k + 1) done (cur ++ [S[k]]) := by
  intro r
  rw [List.take_succ_eq_append_getElem hk, List.append_assoc, h]
  show done ++ (match splitC (S[k] :: r) with | [] => [cur] | x :: l => (cur ++ x) :: l) = _
  rw [splitC, if_neg hc]
  cases h2 : splitC r with
  | nil => exact absurd h2 (splitC_ne r)
  | cons x l => simp
theorem parP_end {S : List UInt8} {done : List (List UInt8)} {cur : List UInt8} (h : parP S S.length done cur) : splitC S = done ++ [cur] := by
  have := h []
  simpa [splitC] using this
end Go.Proofs.YtaeopobofmpioaaGreatDoor

namespace Go.Proofs.YtaeopobofmpioaaGreatDoor
set_option linter.unusedSimpArgs false
set_option linter.unusedVariables false
open Go.RowKit
set_option linter.unusedVariables false
theorem extract_one (s : ByteArray) (k : Nat) (h : k < s.size) : s.extract k (k + 1) = ⟨[s[k]].toArray⟩ := by
  rw [Lib.extract_eq]
  congr 2
  have hk : k < s.data.toList.length := by rw [ba_len]; exact h
  rw [List.drop_eq_getElem_cons hk, show k + 1 - k = 1 from by omega, List.take_succ_cons, List.take_zero]
  rfl
set_option maxRecDepth 100000 in
set_option maxHeartbeats 1000000 in
theorem parts_ok (s : ByteArray) (hs : s.size ≤ 1048576) (w : World) :
    Calls Tryz.prog 179 #[.string s] w fun e w' => ∃ v, e = .returned v ∧ w'.ownsRow w.heap.size 9 1 v (splitC s.data.toList).length (strL (txt (splitC s.data.toList))) ∧ Grew w w' := by
  obtain ⟨i1, hj, hy0, hy1, hy2⟩ := info_parts info_strF
  have hsl := Lib.hid (ba_len s)
  go_enter Tryz.func179, Tryz.ntmps179
  go_wp2_with fail
  have hown0 : (w.alloc (.cells #[.string ⟨#[]⟩] 9)).ownsRow w.heap.size 9 1 (.slice (some ⟨w.heap.size, 0, none⟩) 1 1) 1 (strL (txt ([] ++ [[]]))) := World.ownsRow_lit w #[.string ⟨#[]⟩] 1 (Nat.le_refl _) (by decide) rfl
  go_loopw [3, 4] (fun ov iv wr => ∃ (k : Nat) (done : List (List UInt8)) (cur : List UInt8), k ≤ s.size ∧ done.length ≤ k ∧ cur.length ≤ k ∧ iv = .int .i64 k ∧ Hid (parP s.data.toList k done cur) ∧ wr.ownsRow w.heap.size 9 1 ov (done.length + 1) (strL (txt (done ++ [cur]))) ∧ Grew w wr) (fun _ iv _ => s.size - (intOf iv).toNat)
  case atStart => exact ⟨0, [], [], Nat.zero_le _, Nat.le_refl _, Nat.le_refl _, rfl, Lib.hid (parP_0 _), hown0, grew_alloc (grew_refl w) _⟩
  case round =>
    obtain ⟨k, done, cur, hk, hdk, hck, rfl, HP, hoo, hg⟩ := hrel
    have hgz := hg.size
    by_cases hlt : k < s.size
    · have hk0 : (0 : Int) ≤ (k : Int) := by omega
      have hk1 : (k : Int) < (s.size : Int) := by omega
      have e1 : IntKind.i64.wrap ((k : Int) + 1) = ((k + 1 : Nat) : Int) := by rw [IntWalk.i64_in _ (by omega)]; omega
      have HLT := Lib.hid (show k < s.data.toList.length by rw [hsl.out]; exact hlt)
      have HK1 := Lib.hid hk1
      by_cases ha : ((s[k]'hlt).toNat : Int) = 44
      · have HN := Lib.hid (parP_comma HP.out HLT.out (by rw [get_list s k hlt HLT.out]; exact u8_eq _ 44 (by omega) ha))
        have HT : Hid (strL (txt ((done ++ [cur]) ++ [[]])) = strL (txt (done ++ [cur])) ++ [.string ⟨#[]⟩]) := Lib.hid (by rw [txt_snoc])
        go_wp2_with (at_builtin; refine wpList_append_rd rfl (.tmp 16) (.tmp 17) 73 rfl w.heap.size 9 i1 (.string ⟨#[]⟩) 16 Tryz.underlying73 hj hy0 hy1 hy2 rfl _ (done.length + 1) _ rfl (hoo.alloc _) (wr.heap.size + 1) (some ⟨wr.heap.size, 0, none⟩) 1 1 [.string ⟨#[]⟩] rfl rfl (rd_new wr 9 #[.string ⟨#[]⟩] (0, 0)) (one_cell rfl) (by unfold maxLen; omega) (by omega) (by simp; omega) ?_; intro v6 w6 hown6 hgrow6 _; have hg6 := grew_put hg hgrow6 (own_base hoo))
        go_roundw
        case rel => exact ⟨k + 1, done ++ [cur], [], by have := HK1.out; omega, by simp; omega, by simp, by go_num, HN, by rw [HT.out, List.length_append]; exact hown6, hg6⟩
        case measure => have h9 := HK1.out; simp [intOf]; omega
      · have HN := Lib.hid (parP_other HP.out HLT.out (by rw [get_list s k hlt HLT.out]; intro h; exact ha (by rw [h]; rfl)))
        have hab : (((s[k]'hlt).toNat : Int) == 44) = false := by simpa using ha
        obtain ⟨g, cap, rfl⟩ := ownsRow_succ hoo
        obtain ⟨n, hn⟩ : ∃ n, done.length = n := ⟨_, rfl⟩
        rw [hn] at hdk hoo ⊢
        have hc := hoo.cellAt n (by omega)
        have hf := hoo.frozenAt n
        have hat : (strL (txt (done ++ [cur])))[n]? = some (.string ⟨cur.toArray⟩) := by
          rw [← hn]; simp [strL, txt]
        rw [hat] at hc
        obtain ⟨hst, hgs⟩ := hoo.stored n (.string ⟨(cur ++ [s[k]'hlt]).toArray⟩)
        have hset : (strL (txt (done ++ [cur]))).set n (.string ⟨(cur ++ [s[k]'hlt]).toArray⟩) = strL (txt (done ++ [cur ++ [s[k]'hlt]])) := by
          rw [← hn]; simp [strL, txt]
        rw [hset] at hst
        have hix : (((n + 1 : Nat) : Int) - 1) = (n : Int) := by omega
        have hnn : (0 : Int) ≤ (n : Int) := by omega
        have hex := extract_one s k hlt
        have happ := ba_app cur [s[k]'hlt]
        have hle : (k : Int) ≤ (k : Int) + 1 := by omega
        have hle2 : (k : Int) + 1 ≤ (s.size : Int) := by omega
        have hle3 : (0 : Int) ≤ (k : Int) + 1 := by omega
        have hle4 : ((k : Int) + 1).toNat = k + 1 := by omega
        have hwn : IntKind.i64.wrap (n : Int) = (n : Int) := IntWalk.i64_in _ (by omega)
        have hn1 : (n : Int) < (n : Int) + 1 := by omega
        have hcu : cur.length + 1 ≤ 9223372036854775807 := by omega
        have HST := Lib.hid hst
        have HGS := Lib.hid hgs
        have HHN := Lib.hid hn
        clear hst hgs hn hset hat
        go_wp2_with fail
        go_region
        go_wp2_with fail
        go_roundw
        case rel =>
          refine ⟨k + 1, done, cur ++ [s[k]'hlt], by have := HK1.out; omega, by have := HHN.out; omega, by rw [List.length_append]; simp; omega, by go_num, HN, ?_, ?_⟩
          · rw [HHN.out]; exact HST.out
          · exact (hg.grown HGS.out (by omega) (fun j hj => by injection hj with hj; have := (ownsRow_lt hoo g rfl).1; omega)).drew
        case measure => have h9 := HK1.out; simp [intOf]; omega
    · obtain rfl : k = s.size := by omega
      have hend := parP_end (S := s.data.toList) (by rw [hsl.out]; exact HP.out)
      have HE := Lib.hid hend
      clear hend
      obtain ⟨g, cap, rfl⟩ := ownsRow_succ hoo
      go_wp2_with fail
      go_ret
      exact ⟨_, rfl, by rw [HE.out, List.length_append]; exact hoo, hg⟩
end Go.Proofs.YtaeopobofmpioaaGreatDoor

namespace Go.Proofs.YtaeopobofmpioaaGreatDoor
set_option linter.unusedSimpArgs false
set_option linter.unusedVariables false
open Go.RowKit
set_option linter.unusedVariables false
def longT (l : List (List UInt8)) : Bool := l.any (fun x => decide ((pnum x).2 ≠ 0))
theorem longT_snoc (l : List (List UInt8)) (x : List UInt8) : longT (l ++ [x]) = (longT l || decide ((pnum x).2 ≠ 0)) := by
  unfold longT; rw [List.any_append]; simp
theorem pnums_good2 {s : List UInt8} (h : s ≠ []) (hn : noForm (splitC s)) : pnums s = if longT (splitC s) then ([], 4) else (valsT (splitC s), 0) := by
  rw [pnums_good h hn]
  unfold worstT
  show (if (if longT (splitC s) = true then (4 : Int) else 0) = 0 then _ else _) = _
  cases longT (splitC s) <;> simp
theorem noForm_snoc {l : List (List UInt8)} {x : List UInt8} (h : noForm l) (hx : (pnum x).2 ≠ 2) : noForm (l ++ [x]) := by
  intro y hy
  rcases List.mem_append.1 hy with hy | hy
  · exact h y hy
  · obtain rfl : y = x := by simpa using hy
    exact hx
theorem txt_get (l : List (List UInt8)) (k : Nat) (h : k < l.length) (h' : k < (txt l).length) : (txt l)[k].data.toList = l[k] := by simp [txt]
theorem splitC_le (l : List UInt8) : ∀ x ∈ splitC l, x.length ≤ l.length := by
  induction l with
  | nil => intro x hx; simp [splitC] at hx; simp [hx]
  | cons c r ih =>
    intro x hx
    rw [splitC] at hx
    split at hx
    · rcases List.mem_cons.1 hx with rfl | hx
      · simp
      · have := ih x hx; simp; omega
    · split at hx
      · obtain rfl : x = [c] := by simpa using hx
        simp
      · rename_i y l h
        rw [h] at ih
        rcases List.mem_cons.1 hx with rfl | hx
        · have := ih y List.mem_cons_self; simp; omega
        · have := ih x (List.mem_cons_of_mem _ hx); simp; omega
set_option maxRecDepth 100000 in
set_option maxHeartbeats 1000000 in
theorem rparseNums_ok (s : ByteArray) (hs : s.size ≤ 1048576) (w : World) :
    Calls Tryz.prog 157 #[.string s] w fun e w' => (∃ v, e = .returned (.tuple #[v, .int .i64 (pnums s.data.toList).2]) ∧ w'.ownsRow w.heap.size 2 1 v (pnums s.data.toList).1.length (i64L (pnums s.data.toList).1)) ∧ Grew w w' := by
  by_cases hz : s.size = 0
  · obtain rfl := ba_empty hz
    go_enter Tryz.func157, Tryz.ntmps157
    go_wp2_with fail
    go_ret2
    exact ⟨⟨_, rfl, World.ownsRow_nil _ _ _ _⟩, grew_refl w⟩
  · obtain ⟨i0, hi, hz0, hz1, hz2⟩ := info_parts (show (Tryz.prog.info? 2).map (fun i => (i.zero, i.size, i.bytes)) = some (some (.int .i64 0), 1, 8) by kernel_rfl)
    have hp : 0 < s.size := by omega
    have hie := ba_some hp
    have hie2 := ba_some' hp
    have hne : Hid (s.data.toList ≠ []) := Lib.hid (fun e => by have := ba_len s; rw [e] at this; simp at this; omega)
    have CP := Lib.hid (parts_ok s hs w)
    have hNl := splitC_len s.data.toList
    have hEl := splitC_le s.data.toList
    rw [ba_len] at hNl
    have HEL := Lib.hid hEl
    clear hEl
    obtain ⟨ps, hps⟩ : ∃ ps, splitC s.data.toList = ps := ⟨_, rfl⟩
    rw [hps] at hNl
    have HPS := Lib.hid hps
    clear hps
    go_enter Tryz.func157, Tryz.ntmps157
    go_wp2_with (first | (go_at_call 179; refine (CP.out).mono ?_; rintro e w1 ⟨v, rfl, hrow, hg1⟩; rw [HPS.out] at hrow; obtain ⟨A1, c1, rfl, hpc, _, hrd⟩ := own_rd hrow))
    clear hrow hie hie2
    have hg1z := hg1.size
    go_loopw [5, 6, 7] (fun ov lv iv wr => ∃ k : Nat, k ≤ ps.length ∧ iv = .int .i64 k ∧ Hid (noForm (ps.take k)) ∧ lv = .bool (longT (ps.take k)) ∧ wr.ownsRow w1.heap.size 2 1 ov k (i64L (valsT (ps.take k))) ∧ Grew w1 wr) (fun _ _ iv _ => ps.length - (intOf iv).toNat)
    case atStart => exact ⟨0, Nat.zero_le _, rfl, Lib.hid (fun x hx => by simp at hx), rfl, World.ownsRow_nil _ _ _ _, grew_refl w1⟩
    case round =>
      obtain ⟨k, hk, rfl, HF, rfl, hown, hg⟩ := hrel
      have hgz := hg.size
      by_cases hlt : k < ps.length
      · obtain ⟨ad, rfl, hbl, hc0⟩ := rd_str (hrd.below hg) k (by rw [txt_length]; exact hlt)
        have hk0 : (0 : Int) ≤ (k : Int) := by omega
        have hk1 : (k : Int) < (ps.length : Int) := by omega
        have e1 : IntKind.i64.wrap ((k : Int) + 1) = ((k + 1 : Nat) : Int) := by rw [IntWalk.i64_in _ (by omega)]; omega
        have HK := Lib.hid hlt
        have hT : ps.take (k + 1) = ps.take k ++ [ps[k]] := List.take_succ_eq_append_getElem hlt
        have hxe : (txt ps)[k]'(by rw [txt_length]; exact hlt) = ⟨ps[k].toArray⟩ := by unfold txt; exact List.getElem_map _
        have hxl : ps[k].length ≤ 1048576 := by
          have := HEL.out ps[k] (by rw [HPS.out]; exact List.getElem_mem hlt)
          rw [ba_len] at this; omega
        have hmem : ps[k] ∈ ps := List.getElem_mem hlt
        rw [hxe] at hc0
        generalize ps[k] = x at *
        obtain ⟨xb, hxb⟩ : ∃ xb : ByteArray, xb = ⟨x.toArray⟩ := ⟨_, rfl⟩
        have hxb2 : xb.data.toList = x := by rw [hxb]
        rw [← hxb] at hc0
        have cR := rparse_ok xb (by rw [← ba_len, hxb2]; omega)
        unfold pnumRes at cR
        rw [hxb2] at cR
        have HTT := Lib.hid hT
        have HMEM := Lib.hid hmem
        clear hT hxe hxb hxb2 hmem
        obtain ⟨lg, hlg⟩ : ∃ lg, longT (ps.take k) = lg := ⟨_, rfl⟩
        rw [hlg]
        have HLG := Lib.hid hlg
        clear hlg
        have HGP : Hid (∀ w6, (wr.alloc (.cells #[.int .i64 (pnum x).1] 2)).grownBy w6 (Value.ownBlock u5) → Grew w1 w6) := Lib.hid (fun w6 h6 => grew_put hg h6 (own_base hown))
        rcases pnum_err x with he | he | he
        · rw [he] at cR
          have HV : Hid (i64L (valsT (ps.take (k + 1))) = i64L (valsT (ps.take k)) ++ [.int .i64 (pnum x).1]) := Lib.hid (by rw [HTT.out, valsT_snoc, i64L_append]; rfl)
          have HL : Hid (longT (ps.take (k + 1)) = lg) := Lib.hid (by rw [HTT.out, longT_snoc, he, HLG.out]; simp)
          have HN : Hid (noForm (ps.take (k + 1))) := Lib.hid (by rw [HTT.out]; exact noForm_snoc HF.out (by rw [he]; decide))
          have CR := Lib.hid cR
          clear cR he
          generalize (pnum x).1 = z at *
          cases lg
          all_goals
            go_wp2_with (first
            | (go_at_call 89; refine (CR.out _).mono ?_; rintro e w' ⟨rfl, hw⟩; have hw := hw.symm; subst hw)
            | (at_builtin; refine wpList_append_rd rfl (.tmp 36) (.tmp 38) 115 rfl w1.heap.size 2 i0 (.int .i64 0) 8 Tryz.underlying115 hi hz0 hz1 hz2 rfl _ k _ rfl (hown.alloc _) (wr.heap.size + 1) (some ⟨wr.heap.size, 0, none⟩) 1 1 [.int .i64 z] rfl rfl (rd_new wr 2 #[.int .i64 z] (0, 0)) (one_cell rfl) (by unfold maxLen; omega) (by omega) (by simp; omega) ?_; intro v6 w6 hown6 hgrow6 _; have hg6 := HGP.out w6 hgrow6))
            go_roundw
            case rel => exact ⟨k + 1, by have := HK.out; omega, by go_num, HN, by rw [HL.out], by rw [HV.out]; exact hown6, hg6⟩
            case measure => have h9 := HK.out; simp [intOf]; omega
        · rw [he] at cR
          have HB : Hid (pnums s.data.toList = ([], 2)) := Lib.hid (pnums_bad hne.out x (by rw [HPS.out]; exact HMEM.out) he)
          have CR := Lib.hid cR
          clear cR he HGP
          go_wp2_with (first
            | (go_at_call 89; refine (CR.out _).mono ?_; rintro e w' ⟨rfl, hw⟩; have hw := hw.symm; subst hw))
          go_ret2
          exact ⟨⟨_, by rw [HB.out]; rfl, by rw [HB.out]; exact World.ownsRow_nil _ _ _ _⟩, grew_trans hg1 hg⟩
        · rw [he] at cR
          have HV : Hid (i64L (valsT (ps.take (k + 1))) = i64L (valsT (ps.take k)) ++ [.int .i64 (pnum x).1]) := Lib.hid (by rw [HTT.out, valsT_snoc, i64L_append]; rfl)
          have HL : Hid (longT (ps.take (k + 1)) = true) := Lib.hid (by rw [HTT.out, longT_snoc, he]; simp)
          have HN : Hid (noForm (ps.take (k + 1))) := Lib.hid (by rw [HTT.out]; exact noForm_snoc HF.out (by rw [he]; decide))
          have CR := Lib.hid cR
          clear cR he
          generalize (pnum x).1 = z at *
          cases lg
          all_goals
            go_wp2_with (first
            | (go_at_call 89; refine (CR.out _).mono ?_; rintro e w' ⟨rfl, hw⟩; have hw := hw.symm; subst hw)
            | (at_builtin; refine wpList_append_rd rfl (.tmp 36) (.tmp 38) 115 rfl w1.heap.size 2 i0 (.int .i64 0) 8 Tryz.underlying115 hi hz0 hz1 hz2 rfl _ k _ rfl (hown.alloc _) (wr.heap.size + 1) (some ⟨wr.heap.size, 0, none⟩) 1 1 [.int .i64 z] rfl rfl (rd_new wr 2 #[.int .i64 z] (0, 0)) (one_cell rfl) (by unfold maxLen; omega) (by omega) (by simp; omega) ?_; intro v6 w6 hown6 hgrow6 _; have hg6 := HGP.out w6 hgrow6))
            go_roundw
            case rel => exact ⟨k + 1, by have := HK.out; omega, by go_num, HN, by rw [HL.out], by rw [HV.out]; exact hown6, hg6⟩
            case measure => have h9 := HK.out; simp [intOf]; omega
      · obtain rfl : k = ps.length := by omega
        rw [List.take_length] at HF hown ⊢
        have hpn := pnums_good2 hne.out (by rw [HPS.out]; exact HF.out)
        rw [HPS.out] at hpn
        have hvl : ps.length = (valsT ps).length := by simp [valsT]
        obtain ⟨lg, hlg⟩ : ∃ lg, longT ps = lg := ⟨_, rfl⟩
        rw [hlg] at hpn ⊢
        have HPN := Lib.hid hpn
        have HVL := Lib.hid hvl
        clear hpn hlg hvl
        obtain ⟨A5, c5, rfl, _, _, _⟩ := own_rd hown
        cases lg
        · go_wp2_with fail
          go_ret2
          exact ⟨⟨_, by rw [HPN.out]; rfl, by rw [HPN.out]; show World.ownsRow _ _ _ _ _ (valsT ps).length _; rw [← HVL.out]; exact ownsRow_base hown hg1z⟩, grew_trans hg1 hg⟩
        · go_wp2_with fail
          go_ret2
          exact ⟨⟨_, by rw [HPN.out]; rfl, by rw [HPN.out]; exact World.ownsRow_nil _ _ _ _⟩, grew_trans hg1 hg⟩
end Go.Proofs.YtaeopobofmpioaaGreatDoor

namespace Go.Proofs.YtaeopobofmpioaaGreatDoor
set_option linter.unusedSimpArgs false
set_option linter.unusedVariables false
open Go.RowKit
set_option linter.unusedVariables false
theorem Rd.grew {w w' : World} {A : Option Addr} {xs : List Value} (h : Rd w w.heap.size A xs) (hb : Grew w w') : Rd w' w'.heap.size A xs := (h.below hb).more hb.size
theorem split_some {s : ByteArray} {l : List (List UInt8)} (h : splitF s.data.toList = some l) (hl : l.length ≤ 4096) (hs : s.size ≤ 100000000) (w : World) :
    Calls Tryz.prog 36 #[.string s] w fun e w' => (∃ v, e = .returned (.tuple #[v, .int .i64 0]) ∧ w'.ownsRow w.heap.size 9 1 v l.length (strL (txt l))) ∧ Grew w w' :=
  (split_ok s hs w).mono fun e w' ⟨hh, hg⟩ => by
    refine ⟨?_, hg⟩
    rcases hh with ⟨h1, _⟩ | ⟨l', h1, h2⟩
    · rw [h] at h1; cases h1
    · rw [h] at h1
      injection h1 with h1
      subst h1
      rcases h2 with ⟨h3, _⟩ | ⟨_, h4⟩
      · omega
      · exact h4
theorem split_none {s : ByteArray} (h : splitF s.data.toList = none) (hs : s.size ≤ 100000000) (w : World) :
    Calls Tryz.prog 36 #[.string s] w fun e w' => e = .returned (.tuple #[.slice none 0 0, .int .i64 2]) ∧ Grew w w' :=
  (split_ok s hs w).mono fun e w' ⟨hh, hg⟩ => by
    refine ⟨?_, hg⟩
    rcases hh with ⟨_, h1⟩ | ⟨l', h1, _⟩
    · exact h1
    · rw [h] at h1; cases h1
theorem parseNum_lit (s : List UInt8) (v e : Int) (h : pnum s = (v, e)) (hz : s.length ≤ 1000) (w : World) (hs : Std w) :
    Calls Tryz.prog 85 #[.string ⟨s.toArray⟩] w fun e' w' => e' = .returned (.tuple #[.int .i64 v, .int .i64 e]) ∧ Grew w w' := by
  have := parseNum_ok ⟨s.toArray⟩ (by show s.toArray.size ≤ _; simp; omega) w hs
  simpa [h] using this
theorem parseNums_lit (s : List UInt8) (l : List Int) (e : Int) (h : pnums s = (l, e)) (hz : s.length ≤ 1000) (w : World) (hs : Std w) (hg8 : 5 < w.heap.size) :
    Calls Tryz.prog 154 #[.string ⟨s.toArray⟩] w fun e' w' => (∃ v, e' = .returned (.tuple #[v, .int .i64 e]) ∧ w'.ownsRow w.heap.size 2 1 v l.length (i64L l)) ∧ Grew w w' := by
  have := parseNums_ok ⟨s.toArray⟩ (by show s.toArray.size ≤ _; simp; omega) w hs hg8
  simpa [h] using this
def knL : List ByteArray := [⟨#[97, 124, 98]⟩, ⟨#[]⟩, ⟨#[92]⟩]
theorem knL_join : joinF (bys knL) = [124, 97, 92, 124, 98, 124, 124, 92, 92] := by decide
theorem knL_split : splitF [124, 97, 92, 124, 98, 124, 124, 92, 92] = some (bys knL) := by decide +kernel
theorem kn_none1 : splitF [97] = none := by decide +kernel
theorem kn_none2 : splitF [124, 97, 92, 98] = none := by decide +kernel
theorem kn_p1 : pnum [45, 57, 50, 50, 51, 51, 55, 50, 48, 51, 54, 56, 53, 52, 55, 55, 53, 56, 48, 56] = (-9223372036854775808, 0) := by decide +kernel
theorem kn_p2 : pnum [45, 48] = (0, 2) := by decide +kernel
theorem kn_p3 : pnum [57, 50, 50, 51, 51, 55, 50, 48, 51, 54, 56, 53, 52, 55, 55, 53, 56, 48, 56] = (0, 4) := by decide +kernel
theorem kn_p4 : pnums [49, 44, 45, 50, 44, 51] = ([1, -2, 3], 0) := by decide +kernel
theorem kn_p5 : pnums [57, 57, 57, 57, 57, 57, 57, 57, 57, 57, 57, 57, 57, 57, 57, 57, 57, 57, 57, 57, 44, 97] = ([], 2) := by decide +kernel
theorem kn_n : nums [1, -2, 3] = [49, 44, 45, 50, 44, 51] := by
  have := nums_pnums (s := [49, 44, 45, 50, 44, 51]) (by rw [kn_p4])
  rwa [kn_p4] at this
theorem kn_0 : Lib.itoa 0 = [48] := by
  have := (pnum_zero (l := [48]) (by decide +kernel)).1
  rwa [show (pnum [48]).1 = 0 from by decide +kernel] at this
theorem bys_txt (l : List ByteArray) : txt (bys l) = l := by
  unfold txt bys
  rw [List.map_map]
  conv => rhs; rw [← List.map_id l]
  apply List.map_congr_left
  intro x _
  simp
end Go.Proofs.YtaeopobofmpioaaGreatDoor

namespace Go.Proofs.YtaeopobofmpioaaGreatDoor
set_option linter.unusedSimpArgs false
set_option linter.unusedVariables false
open Go.RowKit
set_option linter.unusedVariables false
theorem parseNum_numS (n : Int) (h : in64 n) (w : World) (hs : Std w) :
    Calls Tryz.prog 85 #[.string (numS n)] w fun e' w' => e' = .returned (.tuple #[.int .i64 n, .int .i64 0]) ∧ Grew w w' := by
  have hl := itoa_len h.1 h.2
  have := parseNum_ok (numS n) (by show (Lib.itoa n).toArray.size ≤ _; simp; omega) w hs
  rw [show (numS n).data.toList = Lib.itoa n from rfl, pnum_itoa h.1 h.2] at this
  exact this
theorem rnum_at (n : Int) (h : in64 n) (w : World) : Calls Tryz.prog 77 #[.int .i64 n] w fun e w' => e = .returned (.string (numS n)) ∧ Grew w w' := rnum_ok n h.1 h.2 w
end Go.Proofs.YtaeopobofmpioaaGreatDoor
