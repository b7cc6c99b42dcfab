/- The statements of layer 2: their walks. -/
import Derived.Test.YtpifebpfegjmpaaHashK
namespace Go.Proofs.Ytpifebpfegjmpaa
open Go.RowKit
set_option linter.unusedVariables false
theorem hashAny_big (a b n : Int) (t : ByteArray) (A : Option Addr) (c : Nat) (l : List UInt8) (w : World) (h : 50 < t.size) :
    Calls Try.prog 3 #[.int .u64 a, .int .u64 b, .string t, .slice A l.length c, .int .i64 n] w fun e w' => e = .returned (.bool true) ∧ Grew w w' := by
  go_enter Try.func3, Try.ntmps3
  go_wp2_with (refine (known_any _).mono ?_; rintro e w1 ⟨rfl, hb1⟩)
  go_ret
  exact ⟨rfl, hb1⟩
theorem hashAny_big2 (a b n : Int) (t : ByteArray) (A : Option Addr) (c : Nat) (l : List UInt8) (w : World) (h : ¬ 50 < t.size) (h2 : 1000 < l.length) :
    Calls Try.prog 3 #[.int .u64 a, .int .u64 b, .string t, .slice A l.length c, .int .i64 n] w fun e w' => e = .returned (.bool true) ∧ Grew w w' := by
  go_enter Try.func3, Try.ntmps3
  go_wp2_with (refine (known_any _).mono ?_; rintro e w1 ⟨rfl, hb1⟩)
  go_ret
  exact ⟨rfl, hb1⟩
set_option maxHeartbeats 1000000 in
theorem hashAny_law (a b n : Int) (t : ByteArray) (A : Option Addr) (c : Nat) (l : List UInt8) (w : World) (ha : U64 a) (hb : U64 b) (hn : -9223372036854775808 ≤ n ∧ n ≤ 9223372036854775807)
    (hr : Rd w w.heap.size A (l.map byteV)) (h : t.size ≤ 50) (h2 : l.length ≤ 1000) :
    Calls Try.prog 3 #[.int .u64 a, .int .u64 b, .string t, .slice A l.length c, .int .i64 n] w fun e w' => e = .returned (.bool true) ∧ Grew w w' := by
  go_enter Try.func3, Try.ntmps3
  go_wp2_with (refine (known_any _).mono ?_; rintro e w1 ⟨rfl, hb1⟩)
  have hr1 := hr.below hb1
  have hcv : ∀ W : World, Rd W w.heap.size A (l.map byteV) → (convert 23 9 (.slice A l.length c)).run Try.prog W = .ok (.string ⟨l.toArray⟩) W := fun W h => conv_back W _ _ _ _ _ _ _ _ rfl Try.underlying23 Try.underlying5 Try.underlying9 h
  have hle : (ByteArray.mk l.toArray).size ≤ 4611686018427387904 := by show l.toArray.size ≤ _; simp; omega
  have ht : t.size ≤ 4611686018427387904 := by omega
  have C1 := Lib.hid (fun W => mix_any a b ha hb W)
  have C2 := Lib.hid (fun W => refmix_any a b ha hb W)
  have C3 := Lib.hid (fun W h => sum_any t A c w.heap.size l ht (by omega) W h)
  have C4 := Lib.hid (fun W h => refsum_any t A c w.heap.size l ht (by omega) W h)
  have C5 := Lib.hid (fun W => of_any t ⟨l.toArray⟩ ht hle W)
  have C6 := Lib.hid (fun W => refof_any t ⟨l.toArray⟩ ht hle W)
  have C7 := Lib.hid (fun W => two_any t a b ht ha hb W)
  have C8 := Lib.hid (fun W => reftwo_any t a b ht ha hb W)
  have C9 := Lib.hid (fun W => chain_any t a n ht ha hn.1 hn.2 W)
  have C10 := Lib.hid (fun W => refchain_any t a n ht ha hn.1 hn.2 W)
  have x1 := mixN_lt a.toNat b.toNat
  have x2 := sumL_lt t.data.toList l
  have x3 := twoN_lt t.data.toList a.toNat b.toNat
  have x4 := chainI_lt t.data.toList a.toNat n (by have := ha.2; have := ha.1; omega)
  rw [show (⟨l.toArray⟩ : ByteArray).data.toList = l by simp] at C5 C6
  have HC := Lib.hid hcv
  clear hcv
  generalize mixN a.toNat b.toNat = X1 at C1 C2 x1
  generalize sumL t.data.toList l = X2 at C3 C4 C5 C6 x2
  generalize twoN t.data.toList a.toNat b.toNat = X3 at C7 C8 x3
  generalize chainI t.data.toList a.toNat n = X4 at C9 C10 x4
  generalize Value.slice A l.length c = v at HC C3 C4 ⊢
  have hcv : ∀ x : Gr w1, (convert 23 9 v).run Try.prog x.val = .ok (.string ⟨l.toArray⟩) x.val := fun x => HC.out _ (hr1.below (x.ok.mono hb1.size))
  refine wp_region_grew (Below.refl _ w1) (by kernel_rfl) (by kernel_rfl) ?_
  repeat (go_big_quiet_step (first
    | (go_at_call 9; exact callS (C1.out _))
    | (go_at_call 10; exact callS (C2.out _))
    | (go_at_call 11; exact callS (C3.out _ (hr1.below (Below.mono (Gr.ok _) hb1.size))))
    | (go_at_call 12; exact callS (C4.out _ (hr1.below (Below.mono (Gr.ok _) hb1.size))))
    | (go_at_call 13; exact callS (C5.out _))
    | (go_at_call 14; exact callG (C6.out _))
    | (go_at_call 15; exact callS (C7.out _))
    | (go_at_call 16; exact callS (C8.out _))
    | (go_at_call 17; exact callS (C9.out _))
    | (go_at_call 18; exact callS (C10.out _))))
  refine wpQuiet_nil ?_
  rintro _ ⟨⟨w2, hb2⟩, rfl⟩
  go_wp2
  go_ret
  exact ⟨rfl, grew_trans hb1 hb2⟩
end Go.Proofs.Ytpifebpfegjmpaa
