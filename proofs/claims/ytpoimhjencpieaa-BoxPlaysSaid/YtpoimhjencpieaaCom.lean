/- quorum.Common. -/
import Derived.Test.YtpoimhjencpieaaBy
namespace Go.Proofs.Ytpoimhjencpieaa
open Go.RowKit Go.Maps
set_option linter.unusedVariables false
theorem ownsMap_below {H : Type} {P : Program} {k : TypeId} {R : Value → Option (DataW H × List MemPlace)} {w w' : World} {b n B : Nat} {D : DataW H} (h : w.ownsMap P k R b n D) (hB : Below B w w') (hb : b < B) : w'.ownsMap P k R b n D := by
  obtain ⟨es, clock, h1, Ft, hs, hD⟩ := h
  exact ⟨es, clock, (hB.block b hb).trans h1, Ft, hs, hD⟩
def selfD (b : List Int) : DataW Unit := byD (fun x : Int => x) b
def inB (b : List Int) (x : Int) : Bool := Maps.has (selfD b) (.int .i64 x)
def comI (a b : List Int) : List Int := (distI a).filter (inB b)
set_option maxRecDepth 100000 in
set_option maxHeartbeats 1000000 in
theorem common_ok (A B : Option Addr) (c c' : Nat) (a b : List Int) (hza : a.length ≤ 1048576) (hzb : b.length ≤ 1048576) (hib : ∀ x ∈ b, -9223372036854775808 ≤ x ∧ x ≤ 9223372036854775807) (hid : ∀ x ∈ distI a, -9223372036854775808 ≤ x ∧ x ≤ 9223372036854775807) (w : World) (hra : Rd w w.heap.size A (i64L a)) (hrb : Rd w w.heap.size B (i64L b)) :
    Calls Try.prog 21 #[.slice A a.length c, .slice B b.length c'] w fun e W' => ∃ v, e = .returned v ∧ W'.ownsRow w.heap.size 3 1 v (comI a b).length ((comI a b).map (Value.int .i64)) ∧ Below w.heap.size w W' := by
  obtain ⟨i0, hi, hz0, hz1, hz2⟩ := info_parts info_int
  have hdle := distI_le a
  have cB := by_self_ok (H := Unit) B c' b hzb hib w hrb
  have cD := fun W (h : Rd W W.heap.size A (i64L a)) => distinct_ok A c a hza W h
  unfold comI
  generalize distI a = d at *
  go_enter Try.func21, Try.ntmps21
  go_wp2_with (go_at_call 29; refine cB.mono ?_; rintro e W0 ⟨rfl, hown, hg0⟩)
  have hbs : w.heap.size < W0.heap.size := hown.lt
  go_wp2_with (go_at_call 19; refine (cD _ ((hra.below hg0).more hg0.size)).mono ?_; rintro e W1 ⟨v, rfl, hrow, hg1⟩; obtain ⟨D, dc, rfl, hdc, hdl, hD⟩ := own_rd hrow)
  have hown1 := ownsMap_below hown hg1 hbs
  have hsz1 := hg1.size
  have hgg : Below w.heap.size w W1 := hg0.trans (hg1.mono hg0.size)
  have HD := Lib.hid hD
  clear cB cD hrow hdl hD hown
  go_loopw [6, 16] (fun lv iv wr => ∃ i : Nat, i ≤ d.length ∧ iv = .int .i64 i ∧ wr.ownsRow W1.heap.size 3 1 lv ((d.take i).filter (inB b)).length (((d.take i).filter (inB b)).map (Value.int .i64)) ∧ Below W1.heap.size W1 wr) (fun _ i _ => d.length - (intOf i).toNat)
  case atStart => exact ⟨0, Nat.zero_le _, rfl, World.ownsRow_nil _ _ _ _, Below.refl _ _⟩
  case round =>
    obtain ⟨i, hil, rfl, hrow, hg⟩ := hrel
    have hownr := ownsMap_below hown1 hg (by omega)
    by_cases hlt : i < d.length
    · obtain ⟨ad, rfl, hbl, hc0⟩ := rd_i64 (l := d) (HD.out.below hg) i hlt
      have hzr := hid _ (List.getElem_mem hlt)
      have hts : d.take (i + 1) = d.take i ++ [d[i]] := by rw [List.take_succ_eq_append_getElem hlt]
      have HTS := Lib.hid hts
      clear hts
      have hfl : ((d.take i).filter (inB b)).length ≤ i := by have := List.length_filter_le (inB b) (d.take i); rw [List.length_take] at this; omega
      generalize d[i] = z at *
      have e4 : IntKind.i64.wrap ((i : Int) + 1) = (i : Int) + 1 := IntWalk.i64_in _ (by omega)
      have hkey : keyOf Try.prog 3 (.int .i64 z) = some (.int .i64 z) := keyOf_int_mk Try.underlying3 (WalkArith.wf_i64 hzr)
      obtain ⟨F, hF⟩ : ∃ F, (d.take i).filter (inB b) = F := ⟨_, rfl⟩
      rw [hF] at hrow hfl
      have HF := Lib.hid hF
      clear hF
      obtain ⟨bb, hbb⟩ : ∃ bb, Maps.has (byD (H := Unit) (fun x : Int => x) b) (.int .i64 z) = bb := ⟨_, rfl⟩
      have hin : inB b z = bb := hbb
      have HIN := Lib.hid hin
      clear hin
      cases bb
      · go_wp2_with (at_lookup; refine wpList_lookup_own_ok_int _ rfl _ _ 39 rfl 3 3 .i64 int_law Try.underlying39 Try.underlying3 (int_zero _) w.heap.size b.length _ rfl hownr _ _ rfl hkey ?_; intro c hat hwc)
        go_roundw
        case rel => exact ⟨i + 1, by omega, by go_num, by rw [HTS.out, List.filter_append, HF.out, List.filter_cons, HIN.out]; simpa using hrow, hg⟩
        case measure => simp [intOf]; omega
      · go_wp2_with (first
          | (at_lookup; refine wpList_lookup_own_ok_int _ rfl _ _ 39 rfl 3 3 .i64 int_law Try.underlying39 Try.underlying3 (int_zero _) w.heap.size b.length _ rfl hownr _ _ rfl hkey ?_; intro c hat hwc)
          | (at_builtin; refine wpList_append_own _ rfl _ _ 22 rfl W1.heap.size 3 i0 (.int .i64 0) 1 8 Try.underlying22 hi hz0 hz1 hz2 rfl (by decide) _ _ _ rfl (hrow.alloc _) ⟨wr.heap.size, 0, none⟩ 1 1 [.int .i64 z] rfl rfl (cell_one_new _ _ _) (by simp [Value.oneCell']) (by unfold maxLen; omega) (by omega) (by have := hg.size; simp; omega) ?_; intro v' w1 hown' hgrow _; have hbel' := (hg.alloc hg.size (.cells #[.int .i64 z] 3)).grown hgrow (by simp; have := hg.size; omega) (own_base hrow)))
        go_roundw
        case rel => exact ⟨i + 1, by omega, by go_num, by rw [HTS.out, List.filter_append, HF.out, List.filter_cons, HIN.out]; simpa using hown', hbel'⟩
        case measure => simp [intOf]; omega
    · obtain rfl : i = d.length := by omega
      rw [List.take_length] at hrow
      go_wp2_with fail
      go_ret
      exact ⟨_, rfl, ownsRow_low hrow (by omega), hgg.trans (hg.mono (by omega))⟩
end Go.Proofs.Ytpoimhjencpieaa
