/- The reference's ParseNum. -/
import Derived.Deep.DeepCutAuto
import Derived.Deep.CutBlock
import Derived.Test.YtpppegnojmnicaaGreatDoorUat
import Derived.Laws.MakeOwn
import Derived.Test.YtpppegnojmnicaaGreatDoorUau
import Derived.RegionTactic
import Derived.BigRegion
import Derived.Test.YtpppegnojmnicaaGreatDoorUan
import Derived.Test.YtpppegnojmnicaaGreatDoorUaw
import Derived.Test.YtpppegnojmnicaaGreatDoorUaj
set_option linter.unusedSimpArgs false
set_option linter.unusedVariables false
namespace Go.Proofs.YtpppegnojmnicaaGreatDoor
open Go.RowKit
def pnumRes (l : List UInt8) : Value := .tuple #[.int .i64 (pnum l).1, .int .i64 (pnum l).2]
theorem zjj (l : List Int) (n : Int) (h : l ≠ []) : nums (l ++ [n]) = nums l ++ 44 :: Lib.itoa n := by
 unfold nums
 cases l with
 | nil => exact absurd rfl h
 | cons x l =>
  simp only [List.cons_append, List.map_cons]
  rw [ja, ja]
  simp
theorem zdv (l : List Int) (k : Nat) (h : ∀ x ∈ l, in64 x) : (nums (l.take k)).length ≤ l.length * 21 := by
 have h1 := qT (l.take k) (fun x hx => h x (List.mem_of_mem_take hx))
 have h2 : (l.take k).length ≤ l.length := by rw [List.length_take]; omega
 have h3 : (l.take k).length * 21 ≤ l.length * 21 := Nat.mul_le_mul_right 21 h2
 omega
set_option maxRecDepth 100000 in
set_option maxHeartbeats 1000000 in
theorem zmt (A : Option Addr) (c : Nat) (l : List Int) (hl : l.length ≤ 1048576) (hp : ∀ x ∈ l, in64 x) (w : World) (hr : Rd w w.heap.size A (i64L l)) :
 Calls Tryz.prog 172 #[.slice A l.length c] w fun e w' => e = .returned (.string ⟨(nums l).toArray⟩) ∧ Grew w w' := by
 have HPP := Lib.hid hp
 clear hp
 go_enter Tryz.func172, Tryz.ntmps172
 go_wp2_with fail
 go_loopw [3, 4] (fun sv iv wr => ∃ (k : Nat) (t : List UInt8), k ≤ l.length ∧ iv = .int .i64 k ∧ sv = .string ⟨t.toArray⟩ ∧ Hid (t = nums (l.take k)) ∧ Grew w wr) (fun _ iv _ => l.length - (intOf iv).toNat)
 case atStart => exact ⟨0, [], Nat.zero_le _, rfl, rfl, Lib.hid rfl, za w⟩
 case round =>
  obtain ⟨k, t, hk, rfl, rfl, HT, hg⟩ := hrel
  by_cases hlt : k < l.length
  ·obtain ⟨ad, rfl, hbl, hc0⟩ := y7 (hr.below hg) k hlt
   have hk0 : (0 : Int) ≤ (k : Int) := by omega
   have hk1 : (k : Int) < (l.length : Int) := by omega
   have e1 : IntKind.i64.wrap ((k : Int) + 1) = ((k + 1 : Nat) : Int) := by rw [IntWalk.i64_in _ (by omega)]; omega
   have HK := Lib.hid hlt
   have htl : t.length ≤ 22020096 := by
    have := zdv l k HPP.out
    rw [HT.out]; omega
   have HN : Hid (l.take (k + 1) = l.take k ++ [l[k]]) := Lib.hid (List.take_succ_eq_append_getElem hlt)
   have hpx := HPP.out l[k] (List.getElem_mem hlt)
   have cR := fun W => za8 l[k] hpx.1 hpx.2 W
   have hil := yC hpx.1 hpx.2
   generalize l[k] = x at *
   have CR := Lib.hid cR
   clear cR hpx
   by_cases hz : k = 0
   ·have hkn : ¬ (0 : Int) < (k : Int) := by omega
    have happ := jH t (Lib.itoa x)
    have HR : Hid (t ++ Lib.itoa x = nums (l.take (k + 1))) := Lib.hid (by rw [HN.out, HT.out, hz]; rfl)
    clear hz
    go_wp2_with (first | (go_at_call 154; refine (CR.out _).mono ?_; rintro e w3 ⟨rfl, hg3⟩))
    go_roundw
    case rel => exact ⟨k + 1, _, by have := HK.out; omega, by go_num, rfl, HR, zb hg hg3⟩
    case measure => have h9 := HK.out; simp [intOf]; omega
   ·have hkp : (0 : Int) < (k : Int) := by omega
    have hne : l.take k ≠ [] := by
     intro e
     have h9 : (l.take k).length = k := by rw [List.length_take]; omega
     rw [e] at h9
     exact hz h9.symm
    have happ1 := jH t [44]
    have happ := jH (t ++ [44]) (Lib.itoa x)
    have HR : Hid ((t ++ [44]) ++ Lib.itoa x = nums (l.take (k + 1))) := Lib.hid (by
     rw [HN.out, HT.out, zjj _ _ hne]
     exact List.append_assoc _ _ _)
    clear hne
    have htl2 : (t ++ [44]).length ≤ 22020097 := by rw [List.length_append]; simp; omega
    go_wp2_with (first | (go_at_call 154; refine (CR.out _).mono ?_; rintro e w3 ⟨rfl, hg3⟩))
    go_roundw
    case rel => exact ⟨k + 1, _, by have := HK.out; omega, by go_num, rfl, Lib.hid ((List.append_assoc _ _ _).symm.trans HR.out), zb hg hg3⟩
    case measure => have h9 := HK.out; simp [intOf]; omega
  ·obtain rfl : k = l.length := by omega
   rw [List.take_length] at HT
   go_wp2_with fail
   go_ret
   exact ⟨by rw [HT.out]; rfl, hg⟩
/-! parts: between commas -/
theorem Rd.grew {w w' : World} {A : Option Addr} {xs : List Value} (h : Rd w w.heap.size A xs) (hb : Grew w w') : Rd w' w'.heap.size A xs := (h.below hb).more hb.size
theorem yX {s : ByteArray} {l : List (List UInt8)} (h : splitF s.data.toList = some l) (hl : l.length ≤ 4096) (hs : s.size ≤ 100000000) (w : World) :
 Calls Tryz.prog 79 #[.string s] w fun e w' => (∃ v, e = .returned (.tuple #[v, .int .i64 0]) ∧ w'.ownsRow w.heap.size 9 1 v l.length (strL (txt l))) ∧ Grew w w' :=
 (kd s hs w).mono fun e w' ⟨hh, hg⟩ => by
  refine ⟨?_, hg⟩
  rcases hh with ⟨h1, _⟩ | ⟨l', h1, h2⟩
  ·rw [h] at h1; cases h1
  ·rw [h] at h1
   injection h1 with h1
   subst h1
   rcases h2 with ⟨h3, _⟩ | ⟨_, h4⟩
   ·omega
   ·exact h4
theorem zhj {s : ByteArray} (h : splitF s.data.toList = none) (hs : s.size ≤ 100000000) (w : World) :
 Calls Tryz.prog 79 #[.string s] w fun e w' => e = .returned (.tuple #[.slice none 0 0, .int .i64 2]) ∧ Grew w w' :=
 (kd s hs w).mono fun e w' ⟨hh, hg⟩ => by
  refine ⟨?_, hg⟩
  rcases hh with ⟨_, h1⟩ | ⟨l', h1, _⟩
  ·exact h1
  ·rw [h] at h1; cases h1
end Go.Proofs.YtpppegnojmnicaaGreatDoor
