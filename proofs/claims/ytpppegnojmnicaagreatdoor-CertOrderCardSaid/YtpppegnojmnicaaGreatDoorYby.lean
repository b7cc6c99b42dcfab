/- The rows of laws: for every input the call returns true, and what came in reads as it did. The card: the row's listed variables are tied to the program's text. -/
import Derived.Test.YtpppegnojmnicaaGreatDoorCards
import Derived.Test.YtpppegnojmnicaaGreatDoorTie
import Derived.Test.YtpppegnojmnicaaGreatDoorYbf
import Derived.Test.YtpppegnojmnicaaGreatDoorYbx
namespace Go.Proofs.YtpppegnojmnicaaGreatDoor
set_option linter.unusedSimpArgs false
set_option linter.unusedVariables false
open Go.ChangeShapes Go.WideShapes Go.ChangeAt Go.RowKit Go.ChangeMaps
set_option linter.unusedVariables false
set_option maxRecDepth 100000 in
theorem certOrder_contract {H : Type} {enc : TypeId × Value → H} (W : World) (base : Nat) (args : Array Value) (ds : List (DataW H)) (p : List MemPlace)
    (hval : ∀ (j : Nat) t v, Tryz.f9.params[j]? = some t → args[j]? = some v → Value.okWide Tryz.prog W .any base t v)
    (hA : DataW.TrodAll enc Tryz.prog W 0 (fun _ => true) true Tryz.f9.params.toList args.toList ds p) (hS : Std W) :
    Calls Tryz.prog 9 args W fun e W' => e = .returned (.bool true) ∧ Below W.heap.size W W' := by
  rw [Tryz.params9] at hA hval
  obtain ⟨v0, vs0, d0, ds0, p0, q0, hargs, rfl, rfl, h0, r0⟩ := trodAll_cons hA
  obtain ⟨v1, vs1, d1, ds1, p1, q1, rfl, rfl, rfl, h1, r1⟩ := trodAll_cons r0
  obtain ⟨v2, vs2, d2, ds2, p2, q2, rfl, rfl, rfl, h2, r2⟩ := trodAll_cons r1
  obtain ⟨v3, vs3, d3, ds3, p3, q3, rfl, rfl, rfl, h3, r3⟩ := trodAll_cons r2
  obtain ⟨v4, vs4, d4, ds4, p4, q4, rfl, rfl, rfl, h4, r4⟩ := trodAll_cons r3
  obtain ⟨v5, vs5, d5, ds5, p5, q5, rfl, rfl, rfl, h5, r5⟩ := trodAll_cons r4
  obtain ⟨rfl, rfl, rfl⟩ := trodAll_nil r5
  obtain rfl : args = #[v0, v1, v2, v3, v4, v5] := by cases args; simp_all
  obtain ⟨a0, rfl, rfl, rfl, w0⟩ := open_int Tryz.underlying55 (hval 0 55 v0 rfl rfl) h0
  have w0 := wf_u64 w0
  obtain ⟨A1, c1, l1, rfl, hl1, hc1, hr1, hz1⟩ := open_ints_rd Tryz.underlying82 Tryz.underlying5 (by kernel_rfl) (hval 1 82 v1 rfl rfl) h1
  obtain ⟨A2, c2, l2, rfl, hl2, hc2, hr2, hz2⟩ := open_ints_rd Tryz.underlying82 Tryz.underlying5 (by kernel_rfl) (hval 2 82 v2 rfl rfl) h2
  obtain ⟨a3, rfl, rfl, rfl, w3⟩ := open_int Tryz.underlying5 (hval 3 5 v3 rfl rfl) h3
  have w3 := wf_u8 w3
  obtain ⟨a4, rfl, rfl, rfl, w4⟩ := open_int Tryz.underlying80 (hval 4 80 v4 rfl rfl) h4
  have w4 := wf_u16 w4
  obtain ⟨a5, rfl, rfl, rfl, w5⟩ := open_int Tryz.underlying80 (hval 5 80 v5 rfl rfl) h5
  have w5 := wf_u16 w5
  exact certOrder_law a0 ⟨w0.1, by omega⟩ A1 c1 l1 hl1 A2 c2 l2 hl2 (fun x hx => by have := wf_u8 (hz1 x hx); exact ⟨this.1, by omega⟩) (fun x hx => by have := wf_u8 (hz2 x hx); exact ⟨this.1, by omega⟩) a3 ⟨w3.1, by omega⟩ a4 a5 ⟨w4.1, by omega⟩ ⟨w5.1, by omega⟩ W hS hr1 hr2
set_option maxRecDepth 1000000 in
theorem certOrder_lifted (os : Os) (started : os.Started) (H : Type) (enc : TypeId × Value → H) (F : Stop.Interp) :
    ReturnsInHanded {} Tryz.checked os 9 .any ((OpenSpec.ofChange Rows.certOrderSpec).preRow enc Tryz.prog Tryz.f9 Rows.certOrderRow.domain false Rows.certOrderRow.laid) (((OpenSpec.ofChange Rows.certOrderSpec).at F).post enc Tryz.prog Tryz.f9 false true false false) := by
  have hx : ∃ places, DataW.whole enc Tryz.prog ((laidWorld os).forCall (fun _ _ => 0) ⟨#[], #[.int .u64 0, .slice none 0 0, .slice none 0 0, .int .u8 0, .int .u16 0, .int .u16 0], []⟩).memory Tryz.f9.params.toList Rows.certOrderSpec.vars false (#[.int .u64 0, .slice none 0 0, .slice none 0 0, .int .u8 0, .int .u16 0, .int .u16 0] : Array Value).toList 8 = some ([.lit (.int .u64 0), .nil, .nil, .lit (.int .u8 0), .lit (.int .u16 0), .lit (.int .u16 0)], [], places) := ⟨[], by kernel_rfl⟩
  obtain ⟨places, hx⟩ := hx
  exact law_laid (s := Rows.certOrderSpec) (tb := 4) #[.int .u64 0, .slice none 0 0, .slice none 0 0, .int .u8 0, .int .u16 0, .int .u16 0] [] [] started (by kernel_rfl) Tryz.func9 (by kernel_rfl) (by kernel_rfl) (by kernel_rfl)
    (OpenSpec.preRow_of_cond 8 hx (by kernel_rfl) (fun k hk => by cases hk) (by kernel_rfl) (laid_met os _)) (by kernel_rfl) (by kernel_rfl) Tryz.underlying4 rfl (fun ds h => by match ds, h with | [_, _, _, _, _, _], _ => rfl)
    (fun W base args ds p hval hA hS => certOrder_contract W base args ds p hval hA hS)
end Go.Proofs.YtpppegnojmnicaaGreatDoor

namespace Go.Proofs.YtpppegnojmnicaaGreatDoor
set_option linter.unusedSimpArgs false
set_option linter.unusedVariables false
open Go.ChangeShapes Go.WideShapes Go.ChangeAt Go.RowKit Go.ChangeMaps
set_option linter.unusedVariables false
theorem certOrder_pg : false = Rows.certOrderRow.goesBy Tryz.pinned.checked.prog := by kernel_rfl
end Go.Proofs.YtpppegnojmnicaaGreatDoor
