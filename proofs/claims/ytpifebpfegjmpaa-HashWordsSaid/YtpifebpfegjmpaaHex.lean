/- Contracts of hash.Text, hash.Parse and of the reference's Hex, ParseHex. -/
import Derived.Test.YtpifebpfegjmpaaHash
import Derived.Test.YtpifebpfegjmpaaHexM
namespace Go.Proofs.Ytpifebpfegjmpaa
open Go.RowKit
set_option linter.unusedVariables false
theorem rowT_rd (w : World) (t : TypeId) (d k : Nat) (h : k = 16) : Rd (w.alloc (.cells (rowT d k) t)) (w.heap.size + 1) (some ⟨w.heap.size, 0, none⟩) ((hexL d).map byteV) := by
  subst h
  have hrd := rd_new w t (rowT d 16) (0, 0)
  rw [rowT_16 d] at hrd ⊢
  exact hrd
set_option maxRecDepth 20000 in
theorem text_any (d : Int) (hd : U64 d) (w : World) :
    Calls Try.prog 20 #[.int .u64 d] w fun e w' => e = .returned (.string ⟨(hexL d.toNat).toArray⟩) ∧ Grew w w' := by
  obtain ⟨hd0, hd1⟩ := hd
  obtain ⟨d, rfl⟩ := Int.eq_ofNat_of_zero_le hd0
  have hdb : d < 18446744073709551616 := by omega
  clear hd0 hd1
  rw [Int.toNat_natCast]
  go_enter Try.func20, Try.ntmps20
  go_wp2_with fail
  rw [← rowT_0 d]
  go_loopw [0, 5] (fun v i wr => ∃ k q : Nat, k ≤ 16 ∧ i = .int .i64 k ∧ Hid (q = d / 16 ^ k) ∧ q < 18446744073709551616 ∧ v = .int .u64 q ∧ wr = w.alloc (.cells (rowT d k) 50)) (fun _ i _ => 16 - (intOf i).toNat)
  case atStart => exact ⟨0, d, Nat.zero_le _, rfl, Lib.hid (by simp), hdb, rfl, rfl⟩
  case round =>
    obtain ⟨k, q, hk, rfl, HQ, hq, rfl, rfl⟩ := hrel
    by_cases hlt : k < 16
    · have ha := and15 _ hq
      have hm : q % 16 < 16 := Nat.mod_lt _ (by decide)
      have hg := hexS_get _ hm
      have hcell := rowT_at d k hlt
      have hset := rowT_set d k hlt
      rw [← HQ.out] at hset
      go_wp2_with fail
      go_roundw
      case rel => exact ⟨k + 1, q / 16, by omega, by go_num, Lib.hid (hexStep d k q HQ.out), by omega, by go_num, rfl⟩
      case measure => simp [intOf]; omega
    · have hrd := rowT_rd w 50 d k (by omega)
      have hcv := conv_back (P := Try.prog) (w.alloc (.cells (rowT d k) 50)) (w.heap.size + 1) 23 9 5 (some ⟨w.heap.size, 0, none⟩) 16 16 (hexL d) (by simp [hexL]) Try.underlying23 Try.underlying5 Try.underlying9 hrd
      clear hrd
      go_wp2
      go_ret
      exact ⟨rfl, (Below.refl _ _).alloc (Nat.le_refl _) _⟩

theorem infoU8 : (Try.prog.info? 5).map (fun i => (i.zero, i.size, i.bytes)) = some (some (.int .u8 0), 1, 1) := by kernel_rfl
set_option maxRecDepth 20000 in
theorem hexr_any (d : Int) (hd : U64 d) (w : World) :
    Calls Try.prog 22 #[.int .u64 d] w fun e w' => e = .returned (.string ⟨(hexL d.toNat).toArray⟩) ∧ Grew w w' := by
  obtain ⟨hd0, hd1⟩ := hd
  obtain ⟨d, rfl⟩ := Int.eq_ofNat_of_zero_le hd0
  have hdb : d < 18446744073709551616 := by omega
  clear hd0 hd1
  rw [Int.toNat_natCast]
  obtain ⟨i0, hi, hz0, hz1, hz2⟩ := info_parts infoU8
  go_enter Try.func22, Try.ntmps22
  go_wp2_with fail
  go_loopw [3, 4] (fun v i wr => ∃ k : Nat, k ≤ 16 ∧ i = .int .i64 (60 - 4 * k) ∧ wr.ownsRow w.heap.size 5 1 v k (((hexL d).take k).map byteV) ∧ Below w.heap.size w wr) (fun _ i _ => (intOf i + 4).toNat)
  case atStart => exact ⟨0, Nat.zero_le _, rfl, ⟨rfl, .inl ⟨rfl, rfl⟩⟩, Below.refl _ _⟩
  case round =>
    obtain ⟨k, hk, rfl, hown, hbel⟩ := hrel
    by_cases hlt : k < 16
    · obtain ⟨q, hq, hsh⟩ := shr_hex d k hlt
      have HQ := Lib.hid hq
      have hqb : q < 18446744073709551616 := by rw [hq]; exact Nat.lt_of_le_of_lt (Nat.div_le_self _ _) hdb
      clear hq
      have ha := and15 _ hqb
      have hm : q % 16 < 16 := Nat.mod_lt _ (by decide)
      have hg := hexS_get _ hm
      have hat : (hexL d).take (k + 1) = (hexL d).take k ++ [hexDig (q % 16)] := by rw [hexL_at d k hlt, HQ.out]
      have HA := Lib.hid hat
      clear hat
      go_wp2_with (at_builtin
                   refine wpList_append_own _ rfl _ _ 23 rfl w.heap.size 5 i0 (.int .u8 0) 1 1 Try.underlying23 hi hz0 hz1 hz2 rfl (by decide) _ _ _ rfl (hown.alloc _) ⟨wr.heap.size, 0, none⟩ 1 1 [.int .u8 ((hexDig (q % 16)).toNat : Int)] rfl rfl ?c1 ?c2 ?c3 ?c4 ?c5 ?_)
      case c1 => exact new_one _ _ _
      case c2 => exact one_int _ _
      case c3 => unfold maxLen; omega
      case c4 => omega
      case c5 => exact Nat.le_trans hbel.size (by simp)
      intro v' w1 hown' hgrow _
      have hbel' := (hbel.alloc hbel.size (.cells #[.int .u8 ((hexDig (q % 16)).toNat : Int)] 5)).grown hgrow (by simp; have := hbel.size; omega) (own_base hown)
      go_wp2_with fail
      go_roundw
      case rel => exact ⟨k + 1, by omega, by go_num, by rw [HA.out, List.map_append, List.map_take]; exact hown', hbel'⟩
      case measure => simp [intOf]; omega
    · obtain ⟨A, c, rfl, hnc, hln, hrd⟩ := own_rd hown
      have htk : (hexL d).take k = hexL d := List.take_of_length_le (by rw [hexL_length]; omega)
      rw [htk] at hrd
      have hcv := conv_back (P := Try.prog) wr wr.heap.size 23 9 5 A k c (hexL d) (by rw [hexL_length]; omega) Try.underlying23 Try.underlying5 Try.underlying9 hrd
      clear htk
      go_wp2
      go_ret
      exact ⟨rfl, hbel⟩

theorem digit_dec (c : UInt8) (h : 48 ≤ c.toNat ∧ c.toNat ≤ 57) (w : World) :
    Calls Try.prog 25 #[.int .u8 c.toNat] w fun e w' => e = .returned (.tuple #[.int .u64 ((c.toNat - 48 : Nat) : Int), .bool true]) ∧ w = w' := by
  obtain ⟨h1, h2⟩ := h
  go_enter Try.func25, Try.ntmps25
  go_wp2_with fail
  go_ret2
  exact ⟨by simp; omega, rfl⟩
theorem digit_low (c : UInt8) (h : 97 ≤ c.toNat ∧ c.toNat ≤ 102) (w : World) :
    Calls Try.prog 25 #[.int .u8 c.toNat] w fun e w' => e = .returned (.tuple #[.int .u64 ((c.toNat - 87 : Nat) : Int), .bool true]) ∧ w = w' := by
  obtain ⟨h1, h2⟩ := h
  go_enter Try.func25, Try.ntmps25
  go_wp2_with fail
  go_ret2
  exact ⟨by simp; omega, rfl⟩
theorem digit_no (c : UInt8) (h : ¬ (48 ≤ c.toNat ∧ c.toNat ≤ 57)) (h' : ¬ (97 ≤ c.toNat ∧ c.toNat ≤ 102)) (w : World) :
    Calls Try.prog 25 #[.int .u8 c.toNat] w fun e w' => e = .returned (.tuple #[.int .u64 0, .bool false]) ∧ w = w' := by
  go_enter Try.func25, Try.ntmps25
  go_wp2_with fail
  all_goals first
    | (exfalso; omega)
    | (go_ret2; exact ⟨rfl, rfl⟩)
/-- digit, by the value of a digit -/
theorem digit_any (c : UInt8) (w : World) :
    Calls Try.prog 25 #[.int .u8 c.toNat] w fun e w' => e = .returned (.tuple #[.int .u64 ((hexVal c).getD 0 : Nat), .bool (hexVal c).isSome]) ∧ w = w' := by
  by_cases h : 48 ≤ c.toNat ∧ c.toNat ≤ 57
  · rw [hexVal_dec c h]; exact digit_dec c h w
  · by_cases h' : 97 ≤ c.toNat ∧ c.toNat ≤ 102
    · rw [hexVal_low c h']; exact digit_low c h' w
    · rw [hexVal_no c h h']; exact digit_no c h h' w
theorem parse_short (s : ByteArray) (h : s.size ≠ 16) (w : World) :
    Calls Try.prog 19 #[.string s] w fun e w' => e = .returned (parseRes none) ∧ w = w' := by
  have hb : ((s.size : Int) != 16) = true := by rw [bne_iff_ne]; omega
  go_enter Try.func19, Try.ntmps19
  go_wp2_with fail
  go_ret2
  exact ⟨rfl, rfl⟩
theorem parse_16 (s : ByteArray) (h : s.size = 16) (w : World) :
    Calls Try.prog 19 #[.string s] w fun e w' => e = .returned (parseRes (hexN s.data.toList)) ∧ w = w' := by
  have hb : ((s.size : Int) != 16) = false := by rw [h]; rfl
  have hsz : s.size ≤ 16 := by omega
  have H := Lib.hid h
  clear h
  go_enter Try.func19, Try.ntmps19
  go_wp2_with fail
  go_loop [4, 13] (fun v i => ∃ k d : Nat, k ≤ s.size ∧ i = .int .i64 k ∧ Hid (hexN (s.data.toList.take k) = some d) ∧ v = .int .u64 d) (fun _ i => s.size - (intOf i).toNat)
  case atStart => exact ⟨0, 0, Nat.zero_le _, rfl, Lib.hid rfl, rfl⟩
  case round =>
    obtain ⟨k, d, hk, rfl, HD, rfl⟩ := hrel
    by_cases hlt : k < s.size
    · have hdb := hexN_lt15 _ d (by rw [List.length_take]; have := H.out; omega) HD.out
      have hsn : hexN (s.data.toList.take (k + 1)) = hexStepO (some d) s[k] := by rw [take_snoc s k hlt, hexN_snoc, HD.out]
      have HS := Lib.hid hsn
      clear hsn
      cases hc : hexVal s[k] with
      | none =>
        have hno : hexN s.data.toList = none := by
          have := hexN_none (s.data.toList.take (k + 1)) (s.data.toList.drop (k + 1)) (by rw [HS.out]; simp [hexStepO, hc])
          rwa [List.take_append_drop] at this
        have HN := Lib.hid hno
        have HC := Lib.hid hc
        clear hno hc
        go_wp2_with (go_at_call 25; refine (digit_any _ _).mono ?_; rintro e w' ⟨rfl, rfl⟩; rw [HC.out])
        go_ret2
        exact ⟨ret_res HN.out rfl, rfl⟩
      | some n =>
        have hn := hexVal_lt _ _ hc
        have ho := shl_or d n hdb hn
        have HV : Hid (hexN (s.data.toList.take (k + 1)) = some (d * 16 + n)) := Lib.hid (by rw [HS.out]; simp [hexStepO, hc])
        have HC := Lib.hid hc
        clear hc
        go_wp2_with (go_at_call 25; refine (digit_any _ _).mono ?_; rintro e w' ⟨rfl, rfl⟩; rw [HC.out])
        go_round
        case rel => exact ⟨k + 1, d * 16 + n, by omega, by go_num, HV, by go_num⟩
        case measure => simp [intOf]; omega
    · have hkk : s.data.toList.take k = s.data.toList := List.take_of_length_le (by simp; omega)
      rw [hkk] at HD
      clear hkk
      go_wp2
      go_ret2
      exact ⟨ret_res HD.out rfl, rfl⟩
theorem parse_any (s : ByteArray) (w : World) :
    Calls Try.prog 19 #[.string s] w fun e w' => e = .returned (parseRes (parseO s.data.toList)) ∧ w = w' := by
  unfold parseO
  by_cases h : s.data.toList.length = 16
  · rw [if_pos h]; exact parse_16 s h w
  · rw [if_neg h]; exact parse_short s h w
theorem rparse_short (s : ByteArray) (h : s.size ≠ 16) (w : World) :
    Calls Try.prog 21 #[.string s] w fun e w' => e = .returned (parseRes none) ∧ w = w' := by
  have hb : ((s.size : Int) != 16) = true := by rw [bne_iff_ne]; omega
  go_enter Try.func21, Try.ntmps21
  go_wp2_with fail
  go_ret2
  exact ⟨rfl, rfl⟩
theorem rparse_16 (s : ByteArray) (h : s.size = 16) (w : World) :
    Calls Try.prog 21 #[.string s] w fun e w' => e = .returned (parseRes (hexN s.data.toList)) ∧ w = w' := by
  have hb : ((s.size : Int) != 16) = false := by rw [h]; rfl
  have hsz : s.size ≤ 16 := by omega
  have hsz' : 16 ≤ s.size := by omega
  have H := Lib.hid h
  clear h
  go_enter Try.func21, Try.ntmps21
  go_wp2_with fail
  go_loop [4, 5] (fun v i => ∃ k d : Nat, k ≤ s.size ∧ i = .int .i64 k ∧ Hid (hexN (s.data.toList.take k) = some d) ∧ v = .int .u64 d) (fun _ i => s.size - (intOf i).toNat)
  case atStart => exact ⟨0, 0, Nat.zero_le _, rfl, Lib.hid rfl, rfl⟩
  case round =>
    obtain ⟨k, d, hk, rfl, HD, rfl⟩ := hrel
    by_cases hlt : k < s.size
    · have hdb := hexN_lt15 _ d (by rw [List.length_take]; omega) HD.out
      have hsn : hexN (s.data.toList.take (k + 1)) = hexStepO (some d) s[k] := by rw [take_snoc s k hlt, hexN_snoc, HD.out]
      have HS := Lib.hid hsn
      clear hsn
      have hcb := s[k].toNat_lt
      by_cases hdec : 48 ≤ s[k].toNat ∧ s[k].toNat ≤ 57
      · obtain ⟨g1, g2⟩ := hdec
        have hV := hexVal_dec s[k] ⟨g1, g2⟩
        have ho := shl_or d (s[k].toNat - 48) hdb (by omega)
        have HV : Hid (hexN (s.data.toList.take (k + 1)) = some (d * 16 + (s[k].toNat - 48))) := Lib.hid (by rw [HS.out]; simp [hexStepO, hV])
        have hcast : ((s[k].toNat - 48 : Nat) : Int) = (s[k].toNat : Int) - 48 := by omega
        rw [hcast] at ho
        have HC := Lib.hid hcast
        clear hV hcast
        go_wp2_with fail
        go_round
        case rel => exact ⟨k + 1, d * 16 + (s[k].toNat - 48), by omega, by go_num, HV, u64_dig _ _⟩
        case measure => simp [intOf]; omega
      · by_cases hlow : 97 ≤ s[k].toNat ∧ s[k].toNat ≤ 102
        · obtain ⟨g1, g2⟩ := hlow
          have hV := hexVal_low s[k] ⟨g1, g2⟩
          have ho := shl_or d (s[k].toNat - 87) hdb (by omega)
          have HV : Hid (hexN (s.data.toList.take (k + 1)) = some (d * 16 + (s[k].toNat - 87))) := Lib.hid (by rw [HS.out]; simp [hexStepO, hV])
          have hcast : ((s[k].toNat - 87 : Nat) : Int) = (s[k].toNat : Int) - 97 + 10 := by omega
          rw [hcast] at ho
          have HC := Lib.hid hcast
          clear hV hcast
          go_wp2_with fail
          go_round
          case rel => exact ⟨k + 1, d * 16 + (s[k].toNat - 87), by omega, by go_num, HV, u64_dig _ _⟩
          case measure => simp [intOf]; omega
        · have hno : hexN s.data.toList = none := by
            have := hexN_none (s.data.toList.take (k + 1)) (s.data.toList.drop (k + 1)) (by rw [HS.out]; simp [hexStepO, hexVal_no s[k] hdec hlow])
            rwa [List.take_append_drop] at this
          have HN := Lib.hid hno
          clear hno
          go_wp2_with fail
          all_goals first
            | (exfalso; omega)
            | (go_ret2; exact ⟨ret_res HN.out rfl, rfl⟩)
    · have hkk : s.data.toList.take k = s.data.toList := List.take_of_length_le (by simp; omega)
      rw [hkk] at HD
      clear hkk
      go_wp2
      go_ret2
      exact ⟨ret_res HD.out rfl, rfl⟩
theorem rparse_any (s : ByteArray) (w : World) :
    Calls Try.prog 21 #[.string s] w fun e w' => e = .returned (parseRes (parseO s.data.toList)) ∧ w = w' := by
  unfold parseO
  by_cases h : s.data.toList.length = 16
  · rw [if_pos h]; exact rparse_16 s h w
  · rw [if_neg h]; exact rparse_short s h w
end Go.Proofs.Ytpifebpfegjmpaa
