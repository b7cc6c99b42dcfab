/- The rows of laws: for every input the call returns true, and what came in reads as it did. The card: the row's listed variables are tied to the program's text. -/
import Derived.Test.YtpppegnojmnicaaGreatDoorCards
import Derived.Test.YtpppegnojmnicaaGreatDoorTie
import Derived.Test.YtpppegnojmnicaaGreatDoorZbf
import Derived.Test.YtpppegnojmnicaaGreatDoorZbw
namespace Go.Proofs.YtpppegnojmnicaaGreatDoor
set_option linter.unusedSimpArgs false
set_option linter.unusedVariables false
open Go.ChangeShapes Go.WideShapes Go.ChangeAt Go.RowKit Go.ChangeMaps
set_option linter.unusedVariables false
set_option maxRecDepth 100000 in
theorem medianFair_contract {H : Type} {enc : TypeId × Value → H} (W : World) (base : Nat) (args : Array Value) (ds : List (DataW H)) (p : List MemPlace)
    (hval : ∀ (j : Nat) t v, Tryz.f6.params[j]? = some t → args[j]? = some v → Value.okWide Tryz.prog W .any base t v)
    (hA : DataW.TrodAll enc Tryz.prog W 0 (fun _ => true) true Tryz.f6.params.toList args.toList ds p) (hS : Std W) :
    Calls Tryz.prog 6 args W fun e W' => e = .returned (.bool true) ∧ Below W.heap.size W W' := by
  rw [Tryz.params6] at hA hval
  obtain ⟨v0, vs0, d0, ds0, p0, q0, hargs, rfl, rfl, h0, r0⟩ := trodAll_cons hA
  obtain ⟨v1, vs1, d1, ds1, p1, q1, rfl, rfl, rfl, h1, r1⟩ := trodAll_cons r0
  obtain ⟨v2, vs2, d2, ds2, p2, q2, rfl, rfl, rfl, h2, r2⟩ := trodAll_cons r1
  obtain ⟨rfl, rfl, rfl⟩ := trodAll_nil r2
  obtain rfl : args = #[v0, v1, v2] := by cases args; simp_all
  obtain ⟨a0, rfl, rfl, rfl, w0⟩ := open_int Tryz.underlying5 (hval 0 5 v0 rfl rfl) h0
  have w0 := wf_u8 w0
  obtain ⟨A1, c1, l1, rfl, hl1, hc1, hr1, hz1⟩ := open_ints_rd Tryz.underlying69 Tryz.underlying2 (by kernel_rfl) (hval 1 69 v1 rfl rfl) h1
  obtain ⟨a2, rfl, rfl, rfl, w2⟩ := open_int Tryz.underlying5 (hval 2 5 v2 rfl rfl) h2
  have w2 := wf_u8 w2
  exact medianFair_law a0 ⟨w0.1, by omega⟩ A1 c1 l1 hl1 (by unfold maxLen at hc1; omega) (fun x hx => wf_i64 (hz1 x hx)) a2 ⟨w2.1, by omega⟩ W hS hr1
set_option maxRecDepth 1000000 in
theorem medianFair_lifted (os : Os) (started : os.Started) (H : Type) (enc : TypeId × Value → H) (F : Stop.Interp) :
    ReturnsInHanded {} Tryz.checked os 6 .any ((OpenSpec.ofChange Rows.medianFairSpec).preRow enc Tryz.prog Tryz.f6 Rows.medianFairRow.domain false Rows.medianFairRow.laid) (((OpenSpec.ofChange Rows.medianFairSpec).at F).post enc Tryz.prog Tryz.f6 false true false false) := by
  have hx : ∃ places, DataW.whole enc Tryz.prog ((laidWorld os).forCall (fun _ _ => 0) ⟨#[], #[.int .u8 0, .slice none 0 0, .int .u8 0], []⟩).memory Tryz.f6.params.toList Rows.medianFairSpec.vars false (#[.int .u8 0, .slice none 0 0, .int .u8 0] : Array Value).toList 8 = some ([.lit (.int .u8 0), .nil, .lit (.int .u8 0)], [], places) := ⟨[], by kernel_rfl⟩
  obtain ⟨places, hx⟩ := hx
  exact law_laid (s := Rows.medianFairSpec) (tb := 4) #[.int .u8 0, .slice none 0 0, .int .u8 0] [] [] started (by kernel_rfl) Tryz.func6 (by kernel_rfl) (by kernel_rfl) (by kernel_rfl)
    (OpenSpec.preRow_of_cond 8 hx (by kernel_rfl) (fun k hk => by cases hk) (by kernel_rfl) (laid_met os _)) (by kernel_rfl) (by kernel_rfl) Tryz.underlying4 rfl (fun ds h => by match ds, h with | [_, _, _], _ => rfl)
    (fun W base args ds p hval hA hS => medianFair_contract W base args ds p hval hA hS)
end Go.Proofs.YtpppegnojmnicaaGreatDoor

namespace Go.Proofs.YtpppegnojmnicaaGreatDoor
set_option linter.unusedSimpArgs false
set_option linter.unusedVariables false
open Go.ChangeShapes Go.WideShapes Go.ChangeAt Go.RowKit Go.ChangeMaps
set_option linter.unusedVariables false
set_option maxRecDepth 100000 in
theorem medianMoves_contract {H : Type} {enc : TypeId × Value → H} (W : World) (base : Nat) (args : Array Value) (ds : List (DataW H)) (p : List MemPlace)
    (hval : ∀ (j : Nat) t v, Tryz.f8.params[j]? = some t → args[j]? = some v → Value.okWide Tryz.prog W .any base t v)
    (hA : DataW.TrodAll enc Tryz.prog W 0 (fun _ => true) true Tryz.f8.params.toList args.toList ds p) (hS : Std W) :
    Calls Tryz.prog 8 args W fun e W' => e = .returned (.bool true) ∧ Below W.heap.size W W' := by
  rw [Tryz.params8] at hA hval
  obtain ⟨v0, vs0, d0, ds0, p0, q0, hargs, rfl, rfl, h0, r0⟩ := trodAll_cons hA
  obtain ⟨v1, vs1, d1, ds1, p1, q1, rfl, rfl, rfl, h1, r1⟩ := trodAll_cons r0
  obtain ⟨v2, vs2, d2, ds2, p2, q2, rfl, rfl, rfl, h2, r2⟩ := trodAll_cons r1
  obtain ⟨v3, vs3, d3, ds3, p3, q3, rfl, rfl, rfl, h3, r3⟩ := trodAll_cons r2
  obtain ⟨rfl, rfl, rfl⟩ := trodAll_nil r3
  obtain rfl : args = #[v0, v1, v2, v3] := by cases args; simp_all
  obtain ⟨a0, rfl, rfl, rfl, w0⟩ := open_int Tryz.underlying5 (hval 0 5 v0 rfl rfl) h0
  have w0 := wf_u8 w0
  obtain ⟨A1, c1, l1, rfl, hl1, hc1, hr1, hz1⟩ := open_ints_rd Tryz.underlying79 Tryz.underlying80 (by kernel_rfl) (hval 1 79 v1 rfl rfl) h1
  obtain ⟨a2, rfl, rfl, rfl, w2⟩ := open_int Tryz.underlying5 (hval 2 5 v2 rfl rfl) h2
  have w2 := wf_u8 w2
  obtain ⟨a3, rfl, rfl, rfl, w3⟩ := open_int Tryz.underlying80 (hval 3 80 v3 rfl rfl) h3
  have w3 := wf_u16 w3
  exact medianMoves_law a0 ⟨w0.1, by omega⟩ A1 c1 l1 hl1 (by unfold maxLen at hc1; omega) (fun x hx => by have := wf_u16 (hz1 x hx); exact ⟨this.1, by omega⟩) a2 ⟨w2.1, by omega⟩ a3 ⟨w3.1, by omega⟩ W hS hr1
set_option maxRecDepth 1000000 in
theorem medianMoves_lifted (os : Os) (started : os.Started) (H : Type) (enc : TypeId × Value → H) (F : Stop.Interp) :
    ReturnsInHanded {} Tryz.checked os 8 .any ((OpenSpec.ofChange Rows.medianMovesSpec).preRow enc Tryz.prog Tryz.f8 Rows.medianMovesRow.domain false Rows.medianMovesRow.laid) (((OpenSpec.ofChange Rows.medianMovesSpec).at F).post enc Tryz.prog Tryz.f8 false true false false) := by
  have hx : ∃ places, DataW.whole enc Tryz.prog ((laidWorld os).forCall (fun _ _ => 0) ⟨#[], #[.int .u8 0, .slice none 0 0, .int .u8 0, .int .u16 0], []⟩).memory Tryz.f8.params.toList Rows.medianMovesSpec.vars false (#[.int .u8 0, .slice none 0 0, .int .u8 0, .int .u16 0] : Array Value).toList 8 = some ([.lit (.int .u8 0), .nil, .lit (.int .u8 0), .lit (.int .u16 0)], [], places) := ⟨[], by kernel_rfl⟩
  obtain ⟨places, hx⟩ := hx
  exact law_laid (s := Rows.medianMovesSpec) (tb := 4) #[.int .u8 0, .slice none 0 0, .int .u8 0, .int .u16 0] [] [] started (by kernel_rfl) Tryz.func8 (by kernel_rfl) (by kernel_rfl) (by kernel_rfl)
    (OpenSpec.preRow_of_cond 8 hx (by kernel_rfl) (fun k hk => by cases hk) (by kernel_rfl) (laid_met os _)) (by kernel_rfl) (by kernel_rfl) Tryz.underlying4 rfl (fun ds h => by match ds, h with | [_, _, _, _], _ => rfl)
    (fun W base args ds p hval hA hS => medianMoves_contract W base args ds p hval hA hS)
end Go.Proofs.YtpppegnojmnicaaGreatDoor
