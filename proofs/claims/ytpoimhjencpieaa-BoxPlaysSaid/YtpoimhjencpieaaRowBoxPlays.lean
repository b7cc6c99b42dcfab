/- The rows of laws: for every input the call returns true, and what came in reads as it did. -/
import Derived.Test.YtpoimhjencpieaaRows
import Derived.Test.YtpoimhjencpieaaOwn
import Derived.Test.YtpoimhjencpieaaBxP
namespace Go.Proofs.Ytpoimhjencpieaa
open Go.ChangeShapes Go.WideShapes Go.RowKit Go.ChangeMaps
set_option linter.unusedVariables false
set_option maxRecDepth 100000 in
theorem boxPlays_contract {H : Type} {enc : TypeId × Value → H} (W : World) (base : Nat) (args : Array Value) (ds : List (DataW H)) (p : List MemPlace)
    (hval : ∀ (j : Nat) t v, Try.f8.params[j]? = some t → args[j]? = some v → Value.okWide Try.prog W .any base t v)
    (hA : DataW.TrodAll enc Try.prog W 0 (fun _ => true) true Try.f8.params.toList args.toList ds p) :
    Calls Try.prog 8 args W fun e W' => e = .returned (.bool true) ∧ Below W.heap.size W W' := by
  rw [Try.params8] at hA hval
  obtain ⟨v0, vs0, d0, ds0, p0, q0, hargs, rfl, rfl, h0, r0⟩ := trodAll_cons hA
  obtain ⟨v1, vs1, d1, ds1, p1, q1, rfl, rfl, rfl, h1, r1⟩ := trodAll_cons r0
  obtain ⟨v2, vs2, d2, ds2, p2, q2, rfl, rfl, rfl, h2, r2⟩ := trodAll_cons r1
  obtain ⟨rfl, rfl, rfl⟩ := trodAll_nil r2
  obtain rfl : args = #[v0, v1, v2] := by cases args; simp_all
  obtain ⟨a0, rfl, rfl, rfl, w0⟩ := open_int Try.underlying3 (hval 0 3 v0 rfl rfl) h0
  have w0 := wf_i64 w0
  obtain ⟨a1, rfl, rfl, rfl, w1⟩ := open_int Try.underlying3 (hval 1 3 v1 rfl rfl) h1
  have w1 := wf_i64 w1
  obtain ⟨A2, c2, l2, rfl, hl2, hc2, hr2, hz2⟩ := open_acts Try.underlying45 Try.underlying50 (by kernel_rfl) rfl (by kernel_rfl)
    (fun j f hj => by
      match j, hj with
      | 0, hj => (injection hj with hj; subst hj; exact Try.underlying3)
      | 1, hj => (injection hj with hj; subst hj; exact Try.underlying3)
      | j + 2, hj => simp at hj)
    (hval 2 45 v2 rfl rfl) h2
  by_cases h : 300 < l2.length
  · exact bplays_big a0 a1 A2 c2 l2 W h
  by_cases hb : (a0 < 1 ∨ 256 < a0) ∨ (a1 < 1 ∨ 256 < a1)
  · exact bplays_bad a0 a1 hb A2 c2 l2 W (by omega)
  obtain ⟨k1, rfl⟩ : ∃ k : Nat, a0 = k := ⟨a0.toNat, by omega⟩
  obtain ⟨k2, rfl⟩ : ∃ k : Nat, a1 = k := ⟨a1.toNat, by omega⟩
  exact bplays_law k1 k2 (by omega) (by omega) A2 c2 l2 W (by omega) hr2
set_option maxRecDepth 100000 in
theorem boxPlays_holds : Rows.BoxPlaysSaid :=
  OpenClaim.holds_of_wide 8 Try.f8 rfl rfl rfl rfl rfl rfl rfl ⟨rfl, rfl, rfl, rfl, rfl⟩ rfl rfl rfl rfl rfl (by kernel_rfl) Try.func8 (by kernel_rfl)
    (of_decide_eq_true (by kernel_rfl)) (by unfold Func.isWrapper; first | (rw [if_pos (by decide +kernel)]; kernel_rfl) | (rw [if_neg (by decide +kernel)]; exact ⟨rfl, rfl⟩))
    (fun os started H enc _ => law_lifted (C := Try.checked) (s := Rows.boxPlaysSpec) (tb := 4) own_none started (by kernel_rfl) Try.func8
      (ChangeSpec.witness6 (enc := enc) (C := Try.checked) (s := Rows.boxPlaysSpec) false ⟨#[], #[.int .i64 0, .int .i64 0, .slice none 0 0], []⟩ 8 (by kernel_rfl) (by kernel_rfl) (by kernel_rfl) (by kernel_rfl))
      laid_out (by kernel_rfl) (by kernel_rfl) Try.underlying4 rfl (fun ds h => by match ds, h with | [_, _, _], _ => rfl)
      (fun W base args ds p hval hA => boxPlays_contract W base args ds p hval hA))
end Go.Proofs.Ytpoimhjencpieaa
