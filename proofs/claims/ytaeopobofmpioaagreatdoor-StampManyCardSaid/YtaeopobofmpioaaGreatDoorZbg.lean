/- key.parseUpTo; key.Parse of a signature's words. -/
import Derived.Test.YtaeopobofmpioaaGreatDoorZbe
import Derived.Test.YtaeopobofmpioaaGreatDoorZbf
import Derived.Test.YtaeopobofmpioaaGreatDoorZbd
import Derived.Test.YtaeopobofmpioaaGreatDoorZao
namespace Go.Proofs.YtaeopobofmpioaaGreatDoor
set_option linter.unusedSimpArgs false
set_option linter.unusedVariables false
open Go.RowKit
set_option linter.unusedVariables false
def uptoB (s : List UInt8) (m : Int) : Bool := decide ((pnum s).2 = 0 ∧ 0 ≤ (pnum s).1 ∧ (pnum s).1 ≤ m)
set_option maxRecDepth 100000 in
theorem upto_ok (s : ByteArray) (hs : s.size ≤ 1048576) (m : Int) (w : World) (hS : Std w) :
    Calls Tryz.prog 142 #[.string s, .int .i64 m] w fun e w' => e = .returned (.tuple #[.int .i64 (pnum s.data.toList).1, .bool (uptoB s.data.toList m)]) ∧ Grew w w' := by
  have CP := Lib.hid (parseNum_ok s (by omega) w hS)
  unfold uptoB
  obtain ⟨v, ev, hp⟩ : ∃ v ev, pnum s.data.toList = (v, ev) := ⟨_, _, rfl⟩
  rw [hp] at CP ⊢
  dsimp only at CP ⊢
  clear hp hS
  by_cases h1 : ev = 0
  · have e1 : (ev == 0) = true := by simpa using h1
    by_cases h2 : 0 ≤ v
    · by_cases h3 : v ≤ m
      · rw [decide_eq_true ⟨h1, h2, h3⟩]
        clear h1
        go_enter Tryz.func142, Tryz.ntmps142
        go_wp2_with (go_at_call 85; refine (CP.out).mono ?_; rintro e w1 ⟨rfl, g1⟩)
        go_ret2
        exact ⟨rfl, g1⟩
      · rw [decide_eq_false (fun h => h3 h.2.2)]
        have d3 : decide (v ≤ m) = false := decide_eq_false h3
        clear h1 h3
        go_enter Tryz.func142, Tryz.ntmps142
        go_wp2_with (go_at_call 85; refine (CP.out).mono ?_; rintro e w1 ⟨rfl, g1⟩)
        go_ret2
        exact ⟨rfl, g1⟩
    · rw [decide_eq_false (fun h => h2 h.2.1)]
      clear h1
      go_enter Tryz.func142, Tryz.ntmps142
      go_wp2_with (go_at_call 85; refine (CP.out).mono ?_; rintro e w1 ⟨rfl, g1⟩)
      go_ret2
      exact ⟨rfl, g1⟩
  · have e1 : (ev == 0) = false := by simpa using h1
    rw [decide_eq_false (fun h => h1 h.1)]
    clear h1
    go_enter Tryz.func142, Tryz.ntmps142
    go_wp2_with (go_at_call 85; refine (CP.out).mono ?_; rintro e w1 ⟨rfl, g1⟩)
    go_ret2
    exact ⟨rfl, g1⟩
theorem hexDig_no44 : ∀ x : Fin 16, hexDig x.val ≠ 44 := by decide
theorem hexL_no44 (n : Nat) : ∀ c ∈ hexL n, c ≠ 44 := by
  intro c hc
  obtain ⟨j, _, rfl⟩ := List.mem_map.1 hc
  exact hexDig_no44 ⟨n / 16 ^ (15 - j) % 16, Nat.mod_lt _ (by decide)⟩
/-- digests in words lead back -/
theorem pdigs_digs (l : List Nat) (hb : ∀ n ∈ l, n < 18446744073709551616) : pdigs (digs l) = some l := by
  cases l with
  | nil => exact if_pos rfl
  | cons a l =>
    have hs : splitC (digs (a :: l)) = (a :: l).map hexL := splitC_joinC _ (by simp) (fun x hx => by
      obtain ⟨n, _, rfl⟩ := List.mem_map.1 hx
      exact hexL_no44 n)
    have hne : digs (a :: l) ≠ [] := by
      intro h
      rw [h] at hs
      have h1 := congrArg List.length hs
      have h2 : ([] : List UInt8) = hexL a := by
        have := congrArg List.head? hs
        simpa [splitC] using this
      have := congrArg List.length h2
      rw [hexL_length] at this
      simp at this
    rw [pdigs_good hne (by
      rw [hs]
      intro x hx
      obtain ⟨n, hn, rfl⟩ := List.mem_map.1 hx
      rw [parseO_hexL n (hb n hn)]; exact fun h => by cases h), hs]
    congr 1
    unfold valsD
    rw [List.map_map]
    conv => rhs; rw [← List.map_id (a :: l)]
    apply List.map_congr_left
    intro n hn
    simp [parseO_hexL n (hb n hn)]
end Go.Proofs.YtaeopobofmpioaaGreatDoor

namespace Go.Proofs.YtaeopobofmpioaaGreatDoor
set_option linter.unusedSimpArgs false
set_option linter.unusedVariables false
open Go.RowKit
set_option linter.unusedVariables false
set_option linter.unusedSimpArgs false
set_option maxRecDepth 100000 in
set_option maxHeartbeats 1000000 in
theorem rstwords_ok (cm : Nat) (who at_ : Int) (hc : cm < 18446744073709551616) (hw : in64 who) (ha : in64 at_) (w : World) :
    Calls Tryz.prog 23 #[.int .u64 (cm : Nat), .int .i64 who, .int .i64 at_] w fun e w' => e = .returned (.string ⟨(stW cm who at_).toArray⟩) ∧ Grew w w' := by
  have hlen := stW_len cm who at_ hw ha
  have c0 := fun W => hexr_any (cm : Nat) ⟨by omega, by omega⟩ W
  simp only [Int.toNat_natCast] at c0
  have C0 := Lib.hid c0
  have C1 := Lib.hid (fun W => rnum_ok who hw.1 hw.2 W)
  have C2 := Lib.hid (fun W => rnum_ok at_ ha.1 ha.2 W)
  have CJ : Hid (∀ (A4 : Option Addr) (W : World), Rd W W.heap.size A4 (strL [⟨#[115, 116, 97, 109, 112]⟩, ⟨(hexL cm).toArray⟩, ⟨(Lib.itoa who).toArray⟩, ⟨(Lib.itoa at_).toArray⟩]) → Calls Tryz.prog 75 #[.slice A4 4 4] W fun e w' => e = .returned (.string ⟨(stW cm who at_).toArray⟩) ∧ Grew W w') := Lib.hid (fun A4 W hR => by
    have := rjoin_ok A4 4 [⟨#[115, 116, 97, 109, 112]⟩, ⟨(hexL cm).toArray⟩, ⟨(Lib.itoa who).toArray⟩, ⟨(Lib.itoa at_).toArray⟩] (by simp) (by simp only [stW] at hlen; simp [bys, tagStamp] at hlen ⊢; omega) W hR
    simpa [bys, stW, tagStamp] using this)
  clear hc hw ha hlen c0
  generalize (⟨(stW cm who at_).toArray⟩ : ByteArray) = tj at *
  generalize (⟨(hexL cm).toArray⟩ : ByteArray) = t0 at *
  generalize (⟨(Lib.itoa who).toArray⟩ : ByteArray) = t1 at *
  generalize (⟨(Lib.itoa at_).toArray⟩ : ByteArray) = t2 at *
  go_enter Tryz.func23, Tryz.ntmps23
  go_wp2_with fail
  refine (C0.out w).mono ?_
  rintro e w1 ⟨rfl, g1⟩
  go_wp2_with fail
  refine (C1.out w1).mono ?_
  rintro e w2 ⟨rfl, gg⟩
  have g2 := grew_trans g1 gg
  clear g1 gg
  go_wp2_with fail
  refine (C2.out w2).mono ?_
  rintro e w3 ⟨rfl, gg⟩
  have g3 := grew_trans g2 gg
  clear g2 gg
  go_wp2_with fail
  refine (CJ.out _ _ (rd_made w3 _ #[.string ⟨#[115, 116, 97, 109, 112]⟩, .string t0, .string t1, .string t2])).mono ?_
  rintro e w4 ⟨rfl, gg⟩
  have g4 := grew_trans (grew_alloc g3 _) gg
  clear g3 gg
  go_wp2_with fail
  go_ret
  exact ⟨rfl, g4⟩
set_option maxRecDepth 100000 in
theorem rstdigest_ok (cm : Nat) (who at_ : Int) (hc : cm < 18446744073709551616) (hw : in64 who) (ha : in64 at_) (w : World) :
    Calls Tryz.prog 21 #[.int .u64 (cm : Nat), .int .i64 who, .int .i64 at_] w fun e w' => e = .returned (.int .u64 (stD cm who at_ : Nat)) ∧ Grew w w' := by
  have CW := Lib.hid (rstwords_ok cm who at_ hc hw ha w)
  have CH := Lib.hid (fun W => refof_any ⟨#[115, 116, 97, 109, 112]⟩ ⟨(stW cm who at_).toArray⟩ (by decide) (by have := stW_len cm who at_ hw ha; simp [ByteArray.size]; omega) W)
  have e1 : sumL (⟨#[115, 116, 97, 109, 112]⟩ : ByteArray).data.toList (⟨(stW cm who at_).toArray⟩ : ByteArray).data.toList = stD cm who at_ := by simp [stD, tagStamp]
  rw [e1] at CH
  clear e1 hc hw ha
  generalize stD cm who at_ = d at *
  generalize (⟨(stW cm who at_).toArray⟩ : ByteArray) = tj at *
  go_enter Tryz.func21, Tryz.ntmps21
  go_wp2_with fail
  refine (CW.out).mono ?_
  rintro e w1 ⟨rfl, g1⟩
  go_wp2_with fail
  refine (CH.out w1).mono ?_
  rintro e w2 ⟨rfl, g2⟩
  go_wp2_with fail
  go_ret
  exact ⟨rfl, grew_trans g1 g2⟩
theorem str_beq (s t : List UInt8) : ((⟨s.toArray⟩ : ByteArray).toList == (⟨t.toArray⟩ : ByteArray).toList) = decide (s = t) := by
  rw [ByteArray.toList_eq, ByteArray.toList_eq]
  by_cases h : s = t
  · simp [h]
  · simp [h]
/-- words tell what they are of -/
theorem stW_inj (cm cm' : Nat) (who who' a a' : Int) (hc : cm < 18446744073709551616) (hc' : cm' < 18446744073709551616) (hw : in64 who) (hw' : in64 who') (ha : in64 a) (ha' : in64 a') : stW cm who a = stW cm' who' a' ↔ (cm = cm' ∧ who = who') ∧ a = a' := by
  constructor
  · intro h
    unfold stW at h
    have h1 := congrArg splitF h
    rw [split_join, split_join] at h1
    injection h1 with h1
    injection h1 with _ h1
    injection h1 with h2 h1
    injection h1 with h3 h1
    injection h1 with h4 _
    refine ⟨⟨?_, ?_⟩, ?_⟩
    · have := congrArg parseO h2
      rw [parseO_hexL cm hc, parseO_hexL cm' hc'] at this
      injection this
    · have := congrArg pnum h3
      rw [pnum_itoa hw.1 hw.2, pnum_itoa hw'.1 hw'.2] at this
      exact (Prod.mk.inj this).1
    · have := congrArg pnum h4
      rw [pnum_itoa ha.1 ha.2, pnum_itoa ha'.1 ha'.2] at this
      exact (Prod.mk.inj this).1
  · rintro ⟨⟨rfl, rfl⟩, rfl⟩; rfl
end Go.Proofs.YtaeopobofmpioaaGreatDoor
