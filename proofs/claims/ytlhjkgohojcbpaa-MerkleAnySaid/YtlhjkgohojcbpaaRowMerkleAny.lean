/- The rows of laws: for every input the call returns true, and what came in reads as it did. -/
import Derived.Test.YtlhjkgohojcbpaaRows
import Derived.Test.YtlhjkgohojcbpaaOwn
import Derived.Test.YtlhjkgohojcbpaaMkL
namespace Go.Proofs.Ytlhjkgohojcbpaa
open Go.ChangeShapes Go.WideShapes Go.RowKit Go.ChangeMaps
set_option linter.unusedVariables false
set_option maxRecDepth 100000 in
theorem merkleAny_contract {H : Type} {enc : TypeId × Value → H} (W : World) (base : Nat) (args : Array Value) (ds : List (DataW H)) (p : List MemPlace)
    (hval : ∀ (j : Nat) t v, Try.f9.params[j]? = some t → args[j]? = some v → Value.okWide Try.prog W .any base t v)
    (hA : DataW.TrodAll enc Try.prog W 0 (fun _ => true) true Try.f9.params.toList args.toList ds p) :
    Calls Try.prog 9 args W fun e W' => e = .returned (.bool true) ∧ Below W.heap.size W W' := by
  rw [Try.params9] at hA hval
  obtain ⟨v0, vs0, d0, ds0, p0, q0, hargs, rfl, rfl, h0, r0⟩ := trodAll_cons hA
  obtain ⟨v1, vs1, d1, ds1, p1, q1, rfl, rfl, rfl, h1, r1⟩ := trodAll_cons r0
  obtain ⟨v2, vs2, d2, ds2, p2, q2, rfl, rfl, rfl, h2, r2⟩ := trodAll_cons r1
  obtain ⟨v3, vs3, d3, ds3, p3, q3, rfl, rfl, rfl, h3, r3⟩ := trodAll_cons r2
  obtain ⟨rfl, rfl, rfl⟩ := trodAll_nil r3
  obtain rfl : args = #[v0, v1, v2, v3] := by cases args; simp_all
  obtain ⟨A0, c0, l0, rfl, hl0, hc0, hr0, hz0⟩ := open_ints_rd Try.underlying43 Try.underlying22 (by kernel_rfl) (hval 0 43 v0 rfl rfl) h0
  obtain ⟨a1, rfl, rfl, rfl, w1⟩ := open_int Try.underlying3 (hval 1 3 v1 rfl rfl) h1
  have w1 := wf_i64 w1
  obtain ⟨A2, c2, l2, rfl, hl2, hc2, hr2, hz2⟩ := open_ints_rd Try.underlying43 Try.underlying22 (by kernel_rfl) (hval 2 43 v2 rfl rfl) h2
  obtain ⟨a3, rfl, rfl, rfl, w3⟩ := open_int Try.underlying22 (hval 3 22 v3 rfl rfl) h3
  have w3 := wf_u64 w3
  obtain ⟨L0, e0, hq0, hb0⟩ := ints_nat hr0 (fun z hz => wf_u64 (hz0 z hz))
  obtain ⟨L2, e2, hq2, hb2⟩ := ints_nat hr2 (fun z hz => wf_u64 (hz2 z hz))
  obtain ⟨x, rfl⟩ : ∃ x : Nat, a3 = x := ⟨a3.toNat, by omega⟩
  rw [e0, e2]
  by_cases h1 : 600 < L0.length
  · exact merkleAny_big A0 c0 L0 a1 A2 c2 L2 x W h1
  by_cases h2 : 30 < L2.length
  · exact merkleAny_big2 A0 c0 L0 a1 A2 c2 L2 x W h1 h2
  exact merkleAny_law A0 c0 L0 a1 A2 c2 L2 x W (by omega) (by omega) w1 (by omega) hb0 hb2 hq0 hq2
set_option maxRecDepth 100000 in
theorem merkleAny_holds : Rows.MerkleAnySaid :=
  OpenClaim.holds_of_wide 9 Try.f9 rfl rfl rfl rfl rfl rfl rfl ⟨rfl, rfl, rfl, rfl, rfl⟩ rfl rfl rfl rfl rfl (by kernel_rfl) Try.func9 (by kernel_rfl)
    (of_decide_eq_true (by kernel_rfl)) (by unfold Func.isWrapper; first | (rw [if_pos (by decide +kernel)]; kernel_rfl) | (rw [if_neg (by decide +kernel)]; exact ⟨rfl, rfl⟩))
    (fun os started H enc _ => law_lifted (C := Try.checked) (s := Rows.merkleAnySpec) (tb := 4) own_none started (by kernel_rfl) Try.func9
      (ChangeSpec.witness6 (enc := enc) (C := Try.checked) (s := Rows.merkleAnySpec) false ⟨#[], #[.slice none 0 0, .int .i64 0, .slice none 0 0, .int .u64 0], []⟩ 8 (by kernel_rfl) (by kernel_rfl) (by kernel_rfl) (by kernel_rfl))
      laid_out (by kernel_rfl) (by kernel_rfl) Try.underlying4 rfl (fun ds h => by match ds, h with | [_, _, _, _], _ => rfl)
      (fun W base args ds p hval hA => merkleAny_contract W base args ds p hval hA))
end Go.Proofs.Ytlhjkgohojcbpaa
