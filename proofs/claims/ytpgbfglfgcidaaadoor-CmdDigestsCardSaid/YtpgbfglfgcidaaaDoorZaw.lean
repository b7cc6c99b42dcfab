/- A command that came in, opened. -/
import Derived.Lib.SmallJoins
import Derived.Test.YtpgbfglfgcidaaaDoorProg
import Derived.Test.YtpgbfglfgcidaaaDoorZar
import Derived.Test.YtpgbfglfgcidaaaDoorZak
namespace Go.Proofs.YtpgbfglfgcidaaaDoor
set_option linter.unusedSimpArgs false
set_option linter.unusedVariables false
open Go.RowKit Go.ChangeShapes Go.WideShapes Go.ChangeMaps Go.Joins
set_option linter.unusedVariables false
theorem array5 {α : Type} {cs : Array α} (h : cs.size = 5) : ∃ c0 c1 c2 c3 c4, cs = #[c0, c1, c2, c3, c4] := by
  obtain ⟨l⟩ := cs
  match l, h with
  | [c0, c1, c2, c3, c4], _ => exact ⟨c0, c1, c2, c3, c4, rfl⟩
theorem list5 {α : Type} {cs : List α} (h : cs.length = 5) : ∃ c0 c1 c2 c3 c4, cs = [c0, c1, c2, c3, c4] := by
  match cs, h with
  | [c0, c1, c2, c3, c4], _ => exact ⟨c0, c1, c2, c3, c4, rfl⟩
set_option maxRecDepth 100000 in
theorem open_cm {H : Type} {enc : TypeId × Value → H} {W : World} {r : Reach} {b0 : Nat} {v : Value} {d : DataW H} {ps : List MemPlace}
    (hv : Value.okWide Tryd.prog W r b0 23 v) (h : DataW.Trod enc Tryd.prog W 0 (fun _ => true) true 23 v d ps) : ∃ c : Cm, v = c.v ∧ c.in := by
  obtain ⟨cs, rfl, hsz⟩ := okWide_struct Tryd.underlying23 hv
  obtain ⟨c0, c1, c2, c3, c4, rfl⟩ := array5 (hsz.trans (show Tryd.prog.cellsOf 23 = 5 by kernel_rfl))
  obtain ⟨fuel, hf⟩ := h
  obtain ⟨xs, n, _, _, hl, hlen, hh⟩ := DataW.trod_struct Tryd.underlying23 hf
  obtain ⟨y0, y1, y2, y3, y4, rfl⟩ := list5 (show xs.length = 5 from hlen)
  have ci : Tryd.prog.cellsOf 3 = 1 := by kernel_rfl
  have cj : Tryd.prog.cellsOf 2 = 1 := by kernel_rfl
  have h0 := hh 0 _ rfl
  have h1 := hh 1 _ rfl
  have h2 := hh 2 _ rfl
  have h3 := hh 3 _ rfl
  have h4 := hh 4 _ rfl
  simp [Value.cells, ci, cj] at h0 h1 h2 h3 h4
  obtain ⟨n0, e0, _, i0⟩ := DataW.trod_int Tryd.underlying3 h0
  obtain ⟨n1, e1, _, i1⟩ := DataW.trod_int Tryd.underlying3 h1
  obtain ⟨n2, e2, _, i2⟩ := DataW.trod_int Tryd.underlying3 h2
  obtain ⟨n3, e3, _, i3⟩ := DataW.trod_int Tryd.underlying3 h3
  obtain ⟨n4, e4, _, i4⟩ := DataW.trod_int Tryd.underlying2 h4
  simp only [List.cons.injEq, and_true] at e0 e1 e2 e3 e4
  subst e0 e1 e2 e3 e4
  exact ⟨⟨n0, n1, n2, n3, n4⟩, rfl, Cm.in_of (wf_i64 i0) (wf_i64 i1) (wf_i64 i2) (wf_i64 i3) (wf_i64 i4)⟩
end Go.Proofs.YtpgbfglfgcidaaaDoor
