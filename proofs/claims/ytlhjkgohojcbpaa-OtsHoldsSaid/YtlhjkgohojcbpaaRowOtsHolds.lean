/- The rows of laws: for every input the call returns true, and what came in reads as it did. -/
import Derived.Test.YtlhjkgohojcbpaaRows
import Derived.Test.YtlhjkgohojcbpaaOwn
import Derived.Test.YtlhjkgohojcbpaaOtsE
namespace Go.Proofs.Ytlhjkgohojcbpaa
open Go.ChangeShapes Go.WideShapes Go.RowKit Go.ChangeMaps
set_option linter.unusedVariables false
/-- the law's contract, out of the reading of its arguments -/
theorem otsHolds_contract {H : Type} {enc : TypeId × Value → H} (W : World) (base : Nat) (args : Array Value) (ds : List (DataW H)) (p : List MemPlace)
    (hval : ∀ (j : Nat) t v, Try.f4.params[j]? = some t → args[j]? = some v → Value.okWide Try.prog W .any base t v)
    (hA : DataW.TrodAll enc Try.prog W 0 (fun _ => true) true Try.f4.params.toList args.toList ds p) :
    Calls Try.prog 4 args W fun e W' => e = .returned (.bool true) ∧ Below W.heap.size W W' := by
  rw [Try.params4] at hA hval
  obtain ⟨v0, vs0, d0, ds0, p0, q0, hargs, rfl, rfl, h0, r0⟩ := trodAll_cons hA
  obtain ⟨v1, vs1, d1, ds1, p1, q1, rfl, rfl, rfl, h1, r1⟩ := trodAll_cons r0
  obtain ⟨rfl, rfl, rfl⟩ := trodAll_nil r1
  obtain rfl : args = #[v0, v1] := by cases args; simp_all
  obtain ⟨A0, c0, l0, rfl, hl0, hc0, hr0, hz0⟩ := open_ints_rd Try.underlying43 Try.underlying22 (by kernel_rfl) (hval 0 43 v0 rfl rfl) h0
  obtain ⟨a1, rfl, rfl, rfl, w1⟩ := open_int Try.underlying22 (hval 1 22 v1 rfl rfl) h1
  have w1 := wf_u64 w1
  by_cases hn : l0.length < 18
  · exact otsHolds_short A0 c0 l0.length a1 W hn
  exact otsHolds_law A0 c0 l0 a1 W hr0 (fun z hz => by have := wf_u64 (hz0 z hz); omega) (by omega) (by have hm : maxLen ≤ 9223372036854775807 := (by decide); omega) ⟨w1.1, by omega⟩
set_option maxRecDepth 100000 in
theorem otsHolds_holds : Rows.OtsHoldsSaid :=
  OpenClaim.holds_of_wide 4 Try.f4 rfl rfl rfl rfl rfl rfl rfl ⟨rfl, rfl, rfl, rfl, rfl⟩ rfl rfl rfl rfl rfl (by kernel_rfl) Try.func4 (by kernel_rfl)
    (of_decide_eq_true (by kernel_rfl)) (by unfold Func.isWrapper; first | (rw [if_pos (by decide +kernel)]; kernel_rfl) | (rw [if_neg (by decide +kernel)]; exact ⟨rfl, rfl⟩))
    (fun os started H enc _ => law_lifted (C := Try.checked) (s := Rows.otsHoldsSpec) (tb := 4) own_none started (by kernel_rfl) Try.func4
      (ChangeSpec.witness6 (enc := enc) (C := Try.checked) (s := Rows.otsHoldsSpec) false ⟨#[], #[.slice none 0 0, .int .u64 0], []⟩ 8 (by kernel_rfl) (by kernel_rfl) (by kernel_rfl) (by kernel_rfl))
      laid_out (by kernel_rfl) (by kernel_rfl) Try.underlying4 rfl (fun ds h => by match ds, h with | [_, _], _ => rfl)
      (fun W base args ds p hval hA => otsHolds_contract W base args ds p hval hA))
end Go.Proofs.Ytlhjkgohojcbpaa
