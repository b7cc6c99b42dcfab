/- The rows of laws: for every input the call returns true, and what came in reads as it did. The card: the row's listed variables are tied to the program's text. -/
import Derived.Test.YtpgbfglfgcidaaaGreatDoorCards
import Derived.Test.YtpgbfglfgcidaaaGreatDoorTie
import Derived.Test.YtpgbfglfgcidaaaGreatDoorZba
import Derived.Test.YtpgbfglfgcidaaaGreatDoorZbk
namespace Go.Proofs.YtpgbfglfgcidaaaGreatDoor
set_option linter.unusedSimpArgs false
set_option linter.unusedVariables false
open Go.ChangeShapes Go.WideShapes Go.ChangeAt Go.RowKit Go.ChangeMaps
set_option linter.unusedVariables false
set_option maxRecDepth 100000 in
theorem keyPlays_contract {H : Type} {enc : TypeId × Value → H} (W : World) (base : Nat) (args : Array Value) (ds : List (DataW H)) (p : List MemPlace)
    (hval : ∀ (j : Nat) t v, Tryz.f3.params[j]? = some t → args[j]? = some v → Value.okWide Tryz.prog W .any base t v)
    (hA : DataW.TrodAll enc Tryz.prog W 0 (fun _ => true) true Tryz.f3.params.toList args.toList ds p) (hS : Std W) :
    Calls Tryz.prog 3 args W fun e W' => e = .returned (.bool true) ∧ Below W.heap.size W W' := by
  rw [Tryz.params3] at hA hval
  obtain ⟨v0, vs0, d0, ds0, p0, q0, hargs, rfl, rfl, h0, r0⟩ := trodAll_cons hA
  obtain ⟨v1, vs1, d1, ds1, p1, q1, rfl, rfl, rfl, h1, r1⟩ := trodAll_cons r0
  obtain ⟨v2, vs2, d2, ds2, p2, q2, rfl, rfl, rfl, h2, r2⟩ := trodAll_cons r1
  obtain ⟨v3, vs3, d3, ds3, p3, q3, rfl, rfl, rfl, h3, r3⟩ := trodAll_cons r2
  obtain ⟨rfl, rfl, rfl⟩ := trodAll_nil r3
  obtain rfl : args = #[v0, v1, v2, v3] := by cases args; simp_all
  obtain ⟨a0, rfl, rfl, rfl, w0⟩ := open_int Tryz.underlying3 (hval 0 3 v0 rfl rfl) h0
  have w0 := wf_i64 w0
  obtain ⟨a1, rfl, rfl, rfl, w1⟩ := open_int Tryz.underlying22 (hval 1 22 v1 rfl rfl) h1
  have w1 := wf_u64 w1
  obtain ⟨a2, rfl, rfl, rfl, w2⟩ := open_int Tryz.underlying3 (hval 2 3 v2 rfl rfl) h2
  have w2 := wf_i64 w2
  obtain ⟨A3, c3, l3, rfl, hl3, hc3, hr3, hz3⟩ := open_acts3 Tryz.underlying23 Tryz.underlying33 (by kernel_rfl) rfl (by kernel_rfl)
    (fun j f hj => by
      match j, hj with
      | 0, hj => (injection hj with hj; subst hj; exact Tryz.underlying3)
      | 1, hj => (injection hj with hj; subst hj; exact Tryz.underlying3)
      | 2, hj => (injection hj with hj; subst hj; exact Tryz.underlying22)
      | j + 3, hj => simp at hj)
    (hval 3 23 v3 rfl rfl) h3
  exact keyPlays_law a0 a1 ⟨w1.1, by omega⟩ a2 A3 c3 l3 (fun q hq => by obtain ⟨x1, x2, x3⟩ := hz3 q hq; have := wf_u64 x3; exact ⟨⟨this.1, by omega⟩, wf_i64 x1, wf_i64 x2⟩) W hS hr3 (by unfold maxLen at hc3; omega)
set_option maxRecDepth 1000000 in
theorem keyPlays_lifted (os : Os) (started : os.Started) (H : Type) (enc : TypeId × Value → H) (F : Stop.Interp) :
    ReturnsInHanded {} Tryz.checked os 3 .any ((OpenSpec.ofChange Rows.keyPlaysSpec).preRow enc Tryz.prog Tryz.f3 Rows.keyPlaysRow.domain false Rows.keyPlaysRow.laid) (((OpenSpec.ofChange Rows.keyPlaysSpec).at F).post enc Tryz.prog Tryz.f3 false true false false) := by
  have hx : ∃ places, DataW.whole enc Tryz.prog ((laidWorld os).forCall (fun _ _ => 0) ⟨#[], #[.int .i64 0, .int .u64 0, .int .i64 0, .slice none 0 0], []⟩).memory Tryz.f3.params.toList Rows.keyPlaysSpec.vars false (#[.int .i64 0, .int .u64 0, .int .i64 0, .slice none 0 0] : Array Value).toList 8 = some ([.lit (.int .i64 0), .lit (.int .u64 0), .lit (.int .i64 0), .nil], [], places) := ⟨[], by kernel_rfl⟩
  obtain ⟨places, hx⟩ := hx
  exact law_laid (s := Rows.keyPlaysSpec) (tb := 4) #[.int .i64 0, .int .u64 0, .int .i64 0, .slice none 0 0] [] [] started (by kernel_rfl) Tryz.func3 (by kernel_rfl) (by kernel_rfl) (by kernel_rfl)
    (OpenSpec.preRow_of_cond 8 hx (by kernel_rfl) (fun k hk => by cases hk) (by kernel_rfl) (laid_met os _)) (by kernel_rfl) (by kernel_rfl) Tryz.underlying4 rfl (fun ds h => by match ds, h with | [_, _, _, _], _ => rfl)
    (fun W base args ds p hval hA hS => keyPlays_contract W base args ds p hval hA hS)
theorem keyPlays_said : Rows.KeyPlaysSaid :=
  OpenClaim.holds_of_cond 3 Tryz.f3 rfl rfl rfl rfl rfl rfl rfl ⟨rfl, rfl, rfl, rfl, rfl⟩ rfl rfl rfl rfl rfl (by kernel_rfl) Tryz.func3 (by kernel_rfl)
    (of_decide_eq_true (by kernel_rfl)) (by unfold Func.isWrapper; first | (rw [if_pos (by decide +kernel)]; kernel_rfl) | (rw [if_neg (by decide +kernel)]; exact ⟨rfl, rfl⟩))
    (fun os started H enc _ F => by rw [OpenClaim.pre_eq_preRow]; exact keyPlays_lifted os started H enc F)
theorem keyPlays_plain (f : FuncId) (fn : Func) (hf : Tryz.pinned.checked.prog.funcNamed "folkmoot/folkmootlaw5.KeyPlays" = some f) (hfn : Tryz.pinned.checked.prog.funcs[f]? = some fn) :
    true = Tryz.pinned.checked.prog.looks [] ∧ ∀ (j : Nat) t, fn.params[j]? = some t → Tryz.pinned.checked.prog.wantsStandIn t = false := by
  obtain rfl : f = 3 := Option.some.inj ((show Tryz.prog.funcNamed "folkmoot/folkmootlaw5.KeyPlays" = some 3 by kernel_rfl).symm.trans hf) |>.symm
  obtain rfl : fn = Tryz.f3 := (Option.some.inj (Tryz.func3.symm.trans hfn)).symm
  refine ⟨by kernel_rfl, fun j t ht => ?_⟩
  have hall : (Tryz.f3.params.toList.all fun t => !Tryz.prog.wantsStandIn t) = true := by kernel_rfl
  have := List.all_eq_true.1 hall t (Array.mem_toList_iff.2 (Array.mem_of_getElem? ht))
  exact Bool.not_eq_true' _ ▸ this
theorem keyPlays_holds : Rows.KeyPlaysCardSaid :=
  Claim7.holds_tied_plain_at .later [] _ _ _ _ keyPlays_said (fun _ h => by cases h) (by kernel_rfl) (fun _ h => by cases h) keyPlays_row_tie rfl ⟨rfl, rfl⟩ (by kernel_rfl) rfl keyPlays_plain (by kernel_rfl)
end Go.Proofs.YtpgbfglfgcidaaaGreatDoor
