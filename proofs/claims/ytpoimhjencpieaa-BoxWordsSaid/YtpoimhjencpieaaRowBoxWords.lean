/- The rows of laws: for every input the call returns true, and what came in reads as it did. -/
import Derived.Test.YtpoimhjencpieaaRows
import Derived.Test.YtpoimhjencpieaaOwn
import Derived.Test.YtpoimhjencpieaaBxW
namespace Go.Proofs.Ytpoimhjencpieaa
open Go.ChangeShapes Go.WideShapes Go.RowKit Go.ChangeMaps
set_option linter.unusedVariables false
set_option maxRecDepth 100000 in
theorem boxWords_contract {H : Type} {enc : TypeId × Value → H} (W : World) (base : Nat) (args : Array Value) (ds : List (DataW H)) (p : List MemPlace)
    (hval : ∀ (j : Nat) t v, Try.f9.params[j]? = some t → args[j]? = some v → Value.okWide Try.prog W .any base t v)
    (hA : DataW.TrodAll enc Try.prog W 0 (fun _ => true) true Try.f9.params.toList args.toList ds p) :
    Calls Try.prog 9 args W fun e W' => e = .returned (.bool true) ∧ Below W.heap.size W W' := by
  rw [Try.params9] at hA hval
  obtain ⟨v0, vs0, d0, ds0, p0, q0, hargs, rfl, rfl, h0, r0⟩ := trodAll_cons hA
  obtain ⟨v1, vs1, d1, ds1, p1, q1, rfl, rfl, rfl, h1, r1⟩ := trodAll_cons r0
  obtain ⟨v2, vs2, d2, ds2, p2, q2, rfl, rfl, rfl, h2, r2⟩ := trodAll_cons r1
  obtain ⟨v3, vs3, d3, ds3, p3, q3, rfl, rfl, rfl, h3, r3⟩ := trodAll_cons r2
  obtain ⟨rfl, rfl, rfl⟩ := trodAll_nil r3
  obtain rfl : args = #[v0, v1, v2, v3] := by cases args; simp_all
  obtain ⟨A0, c0, l0, rfl, hl0, hc0, hr0⟩ := open_strs_rd Try.underlying58 Try.underlying9 (by kernel_rfl) (hval 0 58 v0 rfl rfl) h0
  obtain ⟨A1, c1, l1, rfl, hl1, hc1, hr1⟩ := open_bools_rd Try.underlying59 Try.underlying4 (by kernel_rfl) (hval 1 59 v1 rfl rfl) h1
  obtain ⟨a2, rfl, rfl, rfl, w2⟩ := open_int Try.underlying5 (hval 2 5 v2 rfl rfl) h2
  have w2 := wf_u8 w2
  obtain ⟨a3, rfl, rfl, rfl, w3⟩ := open_int Try.underlying5 (hval 3 5 v3 rfl rfl) h3
  have w3 := wf_u8 w3
  by_cases h : 60 < l0.length ∨ l1.length < l0.length
  · exact bwords_big a2 a3 (by omega) (by omega) A0 A1 c0 c1 l0 l1 W h
  exact bwords_law a2 a3 (by omega) (by omega) A0 A1 c0 c1 l0 l1 W (by omega) (by omega) hr0 hr1
set_option maxRecDepth 100000 in
theorem boxWords_holds : Rows.BoxWordsSaid :=
  OpenClaim.holds_of_wide 9 Try.f9 rfl rfl rfl rfl rfl rfl rfl ⟨rfl, rfl, rfl, rfl, rfl⟩ rfl rfl rfl rfl rfl (by kernel_rfl) Try.func9 (by kernel_rfl)
    (of_decide_eq_true (by kernel_rfl)) (by unfold Func.isWrapper; first | (rw [if_pos (by decide +kernel)]; kernel_rfl) | (rw [if_neg (by decide +kernel)]; exact ⟨rfl, rfl⟩))
    (fun os started H enc _ => law_lifted (C := Try.checked) (s := Rows.boxWordsSpec) (tb := 4) own_none started (by kernel_rfl) Try.func9
      (ChangeSpec.witness6 (enc := enc) (C := Try.checked) (s := Rows.boxWordsSpec) false ⟨#[], #[.slice none 0 0, .slice none 0 0, .int .u8 0, .int .u8 0], []⟩ 8 (by kernel_rfl) (by kernel_rfl) (by kernel_rfl) (by kernel_rfl))
      laid_out (by kernel_rfl) (by kernel_rfl) Try.underlying4 rfl (fun ds h => by match ds, h with | [_, _, _, _], _ => rfl)
      (fun W base args ds p hval hA => boxWords_contract W base args ds p hval hA))
end Go.Proofs.Ytpoimhjencpieaa
