/- Contracts of package hash and of the document's digests in the reference. -/
import Derived.Test.YtbohmmcmlabcdaaDoorProg
import Derived.WalkKit
import Derived.Lib.Hide
import Derived.Test.YtbohmmcmlabcdaaDoorPac
import Derived.Test.YtbohmmcmlabcdaaDoorPad
namespace Go.Proofs.YtbohmmcmlabcdaaDoor
set_option linter.unusedSimpArgs false
set_option linter.unusedVariables false
open Go.RowKit
set_option linter.unusedVariables false
set_option maxRecDepth 100000 in
theorem mix_any (a b : Int) (ha : U64 a) (hb : U64 b) (w : World) :
 Calls Tryd.prog 51 #[.int .u64 a, .int .u64 b] w fun e w' => e = .returned (.int .u64 (mixN a.toNat b.toNat : Nat)) ∧ w = w' := by
 obtain ⟨ha0, ha1⟩ := ha
 obtain ⟨hb0, hb1⟩ := hb
 obtain ⟨a, rfl⟩ := Int.eq_ofNat_of_zero_le ha0
 obtain ⟨b, rfl⟩ := Int.eq_ofNat_of_zero_le hb0
 have h1 := rnd_lt (a ^^^ (b * 11400714819323198485 % 18446744073709551616))
 have h2 := rnd_lt (rnd (a ^^^ (b * 11400714819323198485 % 18446744073709551616)))
 have h0 : a ^^^ (b * 11400714819323198485 % 18446744073709551616) < 18446744073709551616 := xor_lt64 (by omega) (Nat.mod_lt _ (by decide))
 have e0 := beg_int a b (by omega)
 have e1 := rnd_int _ h0
 have e2 := rnd_int _ h1
 have e3 := fin_int _ h2
 go_enter Tryd.func51, Tryd.ntmps51
 go_wp2
 refine wp_loop_rounds 3 ?_
 rw [rounds_succ]
 go_wp2
 rw [rounds_succ]
 go_wp2
 rw [rounds_succ]
 go_wp2
 go_ret
 refine ⟨?_, rfl⟩
 simp only [Int.toNat_natCast]
 exact ret_int (by rw [mixN_of a b _ _ _ rfl rfl rfl])
set_option maxRecDepth 100000 in
theorem mixAllS_any (h : Int) (s : ByteArray) (hh : U64 h) (hs : s.size ≤ 4611686018427387904) (w : World) :
 Calls Tryd.prog 52 #[.int .u64 h, .string s] w fun e w' => e = .returned (.int .u64 (mixL h.toNat s.data.toList : Nat)) ∧ w = w' := by
 obtain ⟨hh0, hh1⟩ := hh
 obtain ⟨h, rfl⟩ := Int.eq_ofNat_of_zero_le hh0
 have hb : h < 18446744073709551616 := by omega
 clear hh0 hh1
 rw [Int.toNat_natCast]
 go_enter Tryd.func52, Tryd.ntmps52
 go_wp2
 go_loop [0, 8] (fun v i => ∃ k : Nat, k ≤ s.size ∧ i = .int .i64 k ∧ v = .int .u64 (mixL h (s.data.toList.take k) : Nat)) (fun _ i => s.size - (intOf i).toNat)
 case atStart => exact ⟨0, Nat.zero_le _, rfl, rfl⟩
 case round =>
  obtain ⟨k, hk, rfl, rfl⟩ := hrel
  have hm := mixL_lt h (s.data.toList.take k) hb
  by_cases hlt : k < s.size
  ·have hsn : mixL h (s.data.toList.take (k + 1)) = mixN (mixL h (s.data.toList.take k)) s[k].toNat := by rw [take_snoc s k hlt, mixL_snoc]
   have HS := Lib.hid hsn
   have hc := s[k].toNat_lt
   clear hsn
   go_wp2_with (go_at_call 51; refine (mix_any _ _ (u64_nat hm) (u64_byte _) _).mono ?_; rintro e w' ⟨rfl, rfl⟩)
   go_round
   case rel => exact ⟨k + 1, by omega, by go_num, by rw [HS.out]⟩
   case measure => simp [intOf]; omega
  ·have hkk : s.data.toList.take k = s.data.toList := List.take_of_length_le (by simp; omega)
   have HK := Lib.hid hkk
   clear hkk
   go_wp2
   go_ret
   exact ⟨ret_int (by rw [HK.out]), rfl⟩
set_option maxRecDepth 100000 in
theorem sumS_any (t s : ByteArray) (ht : t.size ≤ 4611686018427387904) (hs : s.size ≤ 4611686018427387904) (w : World) :
 Calls Tryd.prog 38 #[.string t, .string s] w fun e w' => e = .returned (.int .u64 (sumL t.data.toList s.data.toList : Nat)) ∧ w = w' := by
 have h0 : U64 0 := ⟨by omega, by omega⟩
 have h256 : U64 256 := ⟨by omega, by omega⟩
 have hm0 := mixL_lt 0 t.data.toList (by omega)
 have hfin := sumL_eq t.data.toList s.data.toList s.size rfl
 have HF := Lib.hid hfin
 clear hfin
 go_enter Tryd.func38, Tryd.ntmps38
 go_wp2_with fail
 refine (mixAllS_any _ _ h0 ht _).mono ?_
 rintro e w' ⟨rfl, rfl⟩
 go_wp2_with fail
 refine (mix_any _ _ (u64_nat hm0) h256 _).mono ?_
 rintro e w' ⟨rfl, rfl⟩
 go_wp2_with fail
 refine (mixAllS_any _ _ (u64_mixN _ _) hs _).mono ?_
 rintro e w' ⟨rfl, rfl⟩
 go_wp2_with fail
 refine (mix_any _ _ (u64_mixL _ _ (mixN_lt _ _)) (u64_size hs) _).mono ?_
 rintro e w' ⟨rfl, rfl⟩
 go_wp2_with fail
 go_ret
 exact ⟨ret_int (by rw [HF.out]), rfl⟩
end Go.Proofs.YtbohmmcmlabcdaaDoor

namespace Go.Proofs.YtbohmmcmlabcdaaDoor
set_option linter.unusedSimpArgs false
set_option linter.unusedVariables false
open Go.RowKit
set_option linter.unusedVariables false
set_option maxRecDepth 100000 in
theorem of_any (t s : ByteArray) (ht : t.size ≤ 4611686018427387904) (hs : s.size ≤ 4611686018427387904) (w : World) :
 Calls Tryd.prog 25 #[.string t, .string s] w fun e w' => e = .returned (.int .u64 (sumL t.data.toList s.data.toList : Nat)) ∧ w = w' := by
 go_enter Tryd.func25, Tryd.ntmps25
 go_wp2_with fail
 refine (sumS_any _ _ ht hs _).mono ?_
 rintro e w' ⟨rfl, rfl⟩
 go_wp2_with fail
 go_ret
 exact ⟨rfl, rfl⟩
end Go.Proofs.YtbohmmcmlabcdaaDoor

namespace Go.Proofs.YtbohmmcmlabcdaaDoor
set_option linter.unusedSimpArgs false
set_option linter.unusedVariables false
open Go.RowKit
set_option linter.unusedVariables false
theorem rowT_rd (w : World) (t : TypeId) (d k : Nat) (h : k = 16) : Rd (w.alloc (.cells (rowT d k) t)) (w.heap.size + 1) (some ⟨w.heap.size, 0, none⟩) ((hexL d).map byteV) := by
 subst h
 have hrd := rd_new w t (rowT d 16) (0, 0)
 rw [rowT_16 d] at hrd ⊢
 exact hrd
set_option maxRecDepth 20000 in
theorem text_any (d : Int) (hd : U64 d) (w : World) :
 Calls Tryd.prog 40 #[.int .u64 d] w fun e w' => e = .returned (.string ⟨(hexL d.toNat).toArray⟩) ∧ Grew w w' := by
 obtain ⟨hd0, hd1⟩ := hd
 obtain ⟨d, rfl⟩ := Int.eq_ofNat_of_zero_le hd0
 have hdb : d < 18446744073709551616 := by omega
 clear hd0 hd1
 rw [Int.toNat_natCast]
 go_enter Tryd.func40, Tryd.ntmps40
 go_wp2_with fail
 rw [← rowT_0 d]
 go_loopw [0, 5] (fun v i wr => ∃ k q : Nat, k ≤ 16 ∧ i = .int .i64 k ∧ Hid (q = d / 16 ^ k) ∧ q < 18446744073709551616 ∧ v = .int .u64 q ∧ wr = w.alloc (.cells (rowT d k) 104)) (fun _ i _ => 16 - (intOf i).toNat)
 case atStart => exact ⟨0, d, Nat.zero_le _, rfl, Lib.hid (by simp), hdb, rfl, rfl⟩
 case round =>
  obtain ⟨k, q, hk, rfl, HQ, hq, rfl, rfl⟩ := hrel
  by_cases hlt : k < 16
  ·have ha := and15 _ hq
   have hm : q % 16 < 16 := Nat.mod_lt _ (by decide)
   have hg := hexS_get _ hm
   have hcell := rowT_at d k hlt
   have hset := rowT_set d k hlt
   rw [← HQ.out] at hset
   go_wp2_with fail
   go_roundw
   case rel => exact ⟨k + 1, q / 16, by omega, by go_num, Lib.hid (hexStep d k q HQ.out), by omega, by go_num, rfl⟩
   case measure => simp [intOf]; omega
  ·have hrd := rowT_rd w 104 d k (by omega)
   have hcv := conv_back (P := Tryd.prog) (w.alloc (.cells (rowT d k) 104)) (w.heap.size + 1) 44 9 5 (some ⟨w.heap.size, 0, none⟩) 16 16 (hexL d) (by simp [hexL]) Tryd.underlying44 Tryd.underlying5 Tryd.underlying9 hrd
   clear hrd
   go_wp2
   go_ret
   exact ⟨rfl, (Below.refl _ _).alloc (Nat.le_refl _) _⟩
end Go.Proofs.YtbohmmcmlabcdaaDoor
