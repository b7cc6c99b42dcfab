/- The rows of laws: for every input the call returns true, and what came in reads as it did. -/
import Derived.Test.YtpoimhjencpieaaRows
import Derived.Test.YtpoimhjencpieaaOwn
import Derived.Test.YtpoimhjencpieaaWalL
namespace Go.Proofs.Ytpoimhjencpieaa
open Go.ChangeShapes Go.WideShapes Go.RowKit Go.ChangeMaps
set_option linter.unusedVariables false
set_option maxRecDepth 100000 in
theorem walPlays_contract {H : Type} {enc : TypeId × Value → H} (W : World) (base : Nat) (args : Array Value) (ds : List (DataW H)) (p : List MemPlace)
    (hval : ∀ (j : Nat) t v, Try.f10.params[j]? = some t → args[j]? = some v → Value.okWide Try.prog W .any base t v)
    (hA : DataW.TrodAll enc Try.prog W 0 (fun _ => true) true Try.f10.params.toList args.toList ds p) :
    Calls Try.prog 10 args W fun e W' => e = .returned (.bool true) ∧ Below W.heap.size W W' := by
  rw [Try.params10] at hA hval
  obtain ⟨v0, vs0, d0, ds0, p0, q0, hargs, rfl, rfl, h0, r0⟩ := trodAll_cons hA
  obtain ⟨v1, vs1, d1, ds1, p1, q1, rfl, rfl, rfl, h1, r1⟩ := trodAll_cons r0
  obtain ⟨rfl, rfl, rfl⟩ := trodAll_nil r1
  obtain rfl : args = #[v0, v1] := by cases args; simp_all
  obtain ⟨a0, rfl, rfl, rfl, w0⟩ := open_int Try.underlying3 (hval 0 3 v0 rfl rfl) h0
  have w0 := wf_i64 w0
  obtain ⟨A1, c1, l1, rfl, hl1, hc1, hr1, hz1⟩ := open_acts Try.underlying68 Try.underlying72 (by kernel_rfl) rfl (by kernel_rfl)
    (fun j f hj => by
      match j, hj with
      | 0, hj => (injection hj with hj; subst hj; exact Try.underlying3)
      | 1, hj => (injection hj with hj; subst hj; exact Try.underlying3)
      | j + 2, hj => simp at hj)
    (hval 1 68 v1 rfl rfl) h1
  by_cases h1 : 200 < l1.length
  · exact walPlays_big a0 A1 c1 l1 W h1
  by_cases h2 : a0 < 1 ∨ 65536 < a0
  · exact walPlays_no a0 A1 c1 l1 W (by omega) h2
  obtain ⟨room, rfl⟩ : ∃ room : Nat, a0 = room := ⟨a0.toNat, by omega⟩
  exact walPlays_law room A1 c1 l1 W (by omega) (by omega) hr1 (fun p hp => ⟨wf_i64 (hz1 p hp).1, wf_i64 (hz1 p hp).2⟩)
set_option maxRecDepth 100000 in
theorem walPlays_holds : Rows.WalPlaysSaid :=
  OpenClaim.holds_of_wide 10 Try.f10 rfl rfl rfl rfl rfl rfl rfl ⟨rfl, rfl, rfl, rfl, rfl⟩ rfl rfl rfl rfl rfl (by kernel_rfl) Try.func10 (by kernel_rfl)
    (of_decide_eq_true (by kernel_rfl)) (by unfold Func.isWrapper; first | (rw [if_pos (by decide +kernel)]; kernel_rfl) | (rw [if_neg (by decide +kernel)]; exact ⟨rfl, rfl⟩))
    (fun os started H enc _ => law_lifted (C := Try.checked) (s := Rows.walPlaysSpec) (tb := 4) own_none started (by kernel_rfl) Try.func10
      (ChangeSpec.witness6 (enc := enc) (C := Try.checked) (s := Rows.walPlaysSpec) false ⟨#[], #[.int .i64 0, .slice none 0 0], []⟩ 8 (by kernel_rfl) (by kernel_rfl) (by kernel_rfl) (by kernel_rfl))
      laid_out (by kernel_rfl) (by kernel_rfl) Try.underlying4 rfl (fun ds h => by match ds, h with | [_, _], _ => rfl)
      (fun W base args ds p hval hA => walPlays_contract W base args ds p hval hA))
end Go.Proofs.Ytpoimhjencpieaa
