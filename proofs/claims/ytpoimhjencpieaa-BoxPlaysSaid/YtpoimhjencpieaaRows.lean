/-
  No cell of these rows narrows 'for every input' (looked for: loops, veiled, ifaces, maps, wideKeys, modest, calm, conditions, laid).
  DERIVED. THE GIVEN ROWS OF THIS SEAT. 12 by the template 'for every input the law returns true; each argument reads behind the call as it read before'; 0 by the template 'total and deterministic' (their statements: YtpoimhjencpieaaTotals.lean).
  GIVEN WITH THE SEED: the statements are not yours to turn. If you find one false, say at which input.
  Laid BY PROGRAM, IN A SANDBOX (cutbox-rows.mjs): the forced cells as the released guide's own fill.sh prints them over the translation 37d8f546734e902d… (all of the seat's roots in one cut). By AI agents, Wed Nov 11 2026. No macro, syntax, notation, axiom, sorry.
-/
import Derived.Test.YtpoimhjencpieaaChecked
import GoSem.Claim
import GoSem.ClaimJoined
import GoSem.ClaimMapViews
import Derived.JoinedTies
import Derived.KernelRfl
namespace Go.Proofs.Ytpoimhjencpieaa
/- THE CELL 'sum', in the pinned program and in every row, IS THE sha256 OF THE DUMP (.gsa) THAT YtpoimhjencpieaaProg.lean LOADS. Nothing in Lean hashes anything: it is a label: what it is worth is what the hold of that sum in a sandbox is worth. -/
noncomputable def Try.pinned : Pinned := { name := "ytpoimhjencpieaa", sum := "37d8f546734e902d6d5f918b3d7c74dc8cd8bf410623b848add075a5f91adb8d", checked := Try.checked }
namespace Rows
def none {H : Type} : Left H := { results := [], args := [] }

/-- 'folkmootlaw6.QuorumAny': WHATEVER THE INPUT: true; the input reads as it did. -/
def quorumAnySpec : ChangeSpec := { name := "quorumAny", fn := fun _ => fun
  | [d1, d2, d3] => { results := [.lit (.bool true)], args := [d1, d2, d3] }
  | _ => none }
def quorumAnyRow : OpenClaim := { program := "ytpoimhjencpieaa", sum := "37d8f546734e902d6d5f918b3d7c74dc8cd8bf410623b848add075a5f91adb8d", func := "folkmoot/folkmootlaw6.QuorumAny", spec := "quorumAny", unfollowed := true, recurses := true, apart := false }
def QuorumAnySaid : Prop := quorumAnyRow.holds Try.pinned (OpenSpec.ofChange quorumAnySpec)

/-- ITS FALSE NEIGHBOUR: 'it returns false'. Refute it at one input. -/
def quorumAnyWrong : ChangeSpec := { name := "quorumAny", fn := fun _ => fun
  | [d1, d2, d3] => { results := [.lit (.bool false)], args := [d1, d2, d3] }
  | _ => none }
def QuorumAnyWrongFalsely : Prop := quorumAnyRow.holds Try.pinned (OpenSpec.ofChange quorumAnyWrong)

/-- 'folkmootlaw6.QuorumMeet': WHATEVER THE INPUT: true; the input reads as it did. -/
def quorumMeetSpec : ChangeSpec := { name := "quorumMeet", fn := fun _ => fun
  | [d1, d2, d3] => { results := [.lit (.bool true)], args := [d1, d2, d3] }
  | _ => none }
def quorumMeetRow : OpenClaim := { program := "ytpoimhjencpieaa", sum := "37d8f546734e902d6d5f918b3d7c74dc8cd8bf410623b848add075a5f91adb8d", func := "folkmoot/folkmootlaw6.QuorumMeet", spec := "quorumMeet", unfollowed := true, recurses := true, apart := false }
def QuorumMeetSaid : Prop := quorumMeetRow.holds Try.pinned (OpenSpec.ofChange quorumMeetSpec)

/-- ITS FALSE NEIGHBOUR: 'it returns false'. Refute it at one input. -/
def quorumMeetWrong : ChangeSpec := { name := "quorumMeet", fn := fun _ => fun
  | [d1, d2, d3] => { results := [.lit (.bool false)], args := [d1, d2, d3] }
  | _ => none }
def QuorumMeetWrongFalsely : Prop := quorumMeetRow.holds Try.pinned (OpenSpec.ofChange quorumMeetWrong)

/-- 'folkmootlaw6.QuorumBy': WHATEVER THE INPUT: true; the input reads as it did. -/
def quorumBySpec : ChangeSpec := { name := "quorumBy", fn := fun _ => fun
  | [d] => { results := [.lit (.bool true)], args := [d] }
  | _ => none }
def quorumByRow : OpenClaim := { program := "ytpoimhjencpieaa", sum := "37d8f546734e902d6d5f918b3d7c74dc8cd8bf410623b848add075a5f91adb8d", func := "folkmoot/folkmootlaw6.QuorumBy", spec := "quorumBy", unfollowed := true, recurses := true, apart := false }
def QuorumBySaid : Prop := quorumByRow.holds Try.pinned (OpenSpec.ofChange quorumBySpec)

/-- ITS FALSE NEIGHBOUR: 'it returns false'. Refute it at one input. -/
def quorumByWrong : ChangeSpec := { name := "quorumBy", fn := fun _ => fun
  | [d] => { results := [.lit (.bool false)], args := [d] }
  | _ => none }
def QuorumByWrongFalsely : Prop := quorumByRow.holds Try.pinned (OpenSpec.ofChange quorumByWrong)

/-- 'folkmootlaw6.QuorumMore': WHATEVER THE INPUT: true; the input reads as it did. -/
def quorumMoreSpec : ChangeSpec := { name := "quorumMore", fn := fun _ => fun
  | [d1, d2, d3] => { results := [.lit (.bool true)], args := [d1, d2, d3] }
  | _ => none }
def quorumMoreRow : OpenClaim := { program := "ytpoimhjencpieaa", sum := "37d8f546734e902d6d5f918b3d7c74dc8cd8bf410623b848add075a5f91adb8d", func := "folkmoot/folkmootlaw6.QuorumMore", spec := "quorumMore", unfollowed := true, recurses := true, apart := false }
def QuorumMoreSaid : Prop := quorumMoreRow.holds Try.pinned (OpenSpec.ofChange quorumMoreSpec)

/-- ITS FALSE NEIGHBOUR: 'it returns false'. Refute it at one input. -/
def quorumMoreWrong : ChangeSpec := { name := "quorumMore", fn := fun _ => fun
  | [d1, d2, d3] => { results := [.lit (.bool false)], args := [d1, d2, d3] }
  | _ => none }
def QuorumMoreWrongFalsely : Prop := quorumMoreRow.holds Try.pinned (OpenSpec.ofChange quorumMoreWrong)

/-- 'folkmootlaw6.QuorumEdges': WHATEVER THE INPUT: true; the input reads as it did. -/
def quorumEdgesSpec : ChangeSpec := { name := "quorumEdges", fn := fun _ => fun
  | [d1, d2, d3] => { results := [.lit (.bool true)], args := [d1, d2, d3] }
  | _ => none }
def quorumEdgesRow : OpenClaim := { program := "ytpoimhjencpieaa", sum := "37d8f546734e902d6d5f918b3d7c74dc8cd8bf410623b848add075a5f91adb8d", func := "folkmoot/folkmootlaw6.QuorumEdges", spec := "quorumEdges", unfollowed := true, recurses := true, apart := false }
def QuorumEdgesSaid : Prop := quorumEdgesRow.holds Try.pinned (OpenSpec.ofChange quorumEdgesSpec)

/-- ITS FALSE NEIGHBOUR: 'it returns false'. Refute it at one input. -/
def quorumEdgesWrong : ChangeSpec := { name := "quorumEdges", fn := fun _ => fun
  | [d1, d2, d3] => { results := [.lit (.bool false)], args := [d1, d2, d3] }
  | _ => none }
def QuorumEdgesWrongFalsely : Prop := quorumEdgesRow.holds Try.pinned (OpenSpec.ofChange quorumEdgesWrong)

/-- 'folkmootlaw7.BoxPlays': WHATEVER THE INPUT: true; the input reads as it did. -/
def boxPlaysSpec : ChangeSpec := { name := "boxPlays", fn := fun _ => fun
  | [d1, d2, d3] => { results := [.lit (.bool true)], args := [d1, d2, d3] }
  | _ => none }
def boxPlaysRow : OpenClaim := { program := "ytpoimhjencpieaa", sum := "37d8f546734e902d6d5f918b3d7c74dc8cd8bf410623b848add075a5f91adb8d", func := "folkmoot/folkmootlaw7.BoxPlays", spec := "boxPlays", apart := false }
def BoxPlaysSaid : Prop := boxPlaysRow.holds Try.pinned (OpenSpec.ofChange boxPlaysSpec)

/-- ITS FALSE NEIGHBOUR: 'it returns false'. Refute it at one input. -/
def boxPlaysWrong : ChangeSpec := { name := "boxPlays", fn := fun _ => fun
  | [d1, d2, d3] => { results := [.lit (.bool false)], args := [d1, d2, d3] }
  | _ => none }
def BoxPlaysWrongFalsely : Prop := boxPlaysRow.holds Try.pinned (OpenSpec.ofChange boxPlaysWrong)

/-- 'folkmootlaw7.BoxWords': WHATEVER THE INPUT: true; the input reads as it did. -/
def boxWordsSpec : ChangeSpec := { name := "boxWords", fn := fun _ => fun
  | [d1, d2, d3, d4] => { results := [.lit (.bool true)], args := [d1, d2, d3, d4] }
  | _ => none }
def boxWordsRow : OpenClaim := { program := "ytpoimhjencpieaa", sum := "37d8f546734e902d6d5f918b3d7c74dc8cd8bf410623b848add075a5f91adb8d", func := "folkmoot/folkmootlaw7.BoxWords", spec := "boxWords", apart := false }
def BoxWordsSaid : Prop := boxWordsRow.holds Try.pinned (OpenSpec.ofChange boxWordsSpec)

/-- ITS FALSE NEIGHBOUR: 'it returns false'. Refute it at one input. -/
def boxWordsWrong : ChangeSpec := { name := "boxWords", fn := fun _ => fun
  | [d1, d2, d3, d4] => { results := [.lit (.bool false)], args := [d1, d2, d3, d4] }
  | _ => none }
def BoxWordsWrongFalsely : Prop := boxWordsRow.holds Try.pinned (OpenSpec.ofChange boxWordsWrong)

/-- 'folkmootlaw8.WalPlays': WHATEVER THE INPUT: true; the input reads as it did. -/
def walPlaysSpec : ChangeSpec := { name := "walPlays", fn := fun _ => fun
  | [d1, d2] => { results := [.lit (.bool true)], args := [d1, d2] }
  | _ => none }
def walPlaysRow : OpenClaim := { program := "ytpoimhjencpieaa", sum := "37d8f546734e902d6d5f918b3d7c74dc8cd8bf410623b848add075a5f91adb8d", func := "folkmoot/folkmootlaw8.WalPlays", spec := "walPlays", apart := false }
def WalPlaysSaid : Prop := walPlaysRow.holds Try.pinned (OpenSpec.ofChange walPlaysSpec)

/-- ITS FALSE NEIGHBOUR: 'it returns false'. Refute it at one input. -/
def walPlaysWrong : ChangeSpec := { name := "walPlays", fn := fun _ => fun
  | [d1, d2] => { results := [.lit (.bool false)], args := [d1, d2] }
  | _ => none }
def WalPlaysWrongFalsely : Prop := walPlaysRow.holds Try.pinned (OpenSpec.ofChange walPlaysWrong)

/-- 'folkmootlaw8.WalFronts': WHATEVER THE INPUT: true; the input reads as it did. -/
def walFrontsSpec : ChangeSpec := { name := "walFronts", fn := fun _ => fun
  | [d1, d2, d3, d4] => { results := [.lit (.bool true)], args := [d1, d2, d3, d4] }
  | _ => none }
def walFrontsRow : OpenClaim := { program := "ytpoimhjencpieaa", sum := "37d8f546734e902d6d5f918b3d7c74dc8cd8bf410623b848add075a5f91adb8d", func := "folkmoot/folkmootlaw8.WalFronts", spec := "walFronts", apart := false }
def WalFrontsSaid : Prop := walFrontsRow.holds Try.pinned (OpenSpec.ofChange walFrontsSpec)

/-- ITS FALSE NEIGHBOUR: 'it returns false'. Refute it at one input. -/
def walFrontsWrong : ChangeSpec := { name := "walFronts", fn := fun _ => fun
  | [d1, d2, d3, d4] => { results := [.lit (.bool false)], args := [d1, d2, d3, d4] }
  | _ => none }
def WalFrontsWrongFalsely : Prop := walFrontsRow.holds Try.pinned (OpenSpec.ofChange walFrontsWrong)

/-- 'folkmootlaw10.ClockPlays': WHATEVER THE INPUT: true; the input reads as it did. -/
def clockPlaysSpec : ChangeSpec := { name := "clockPlays", fn := fun _ => fun
  | [d1, d2] => { results := [.lit (.bool true)], args := [d1, d2] }
  | _ => none }
def clockPlaysRow : OpenClaim := { program := "ytpoimhjencpieaa", sum := "37d8f546734e902d6d5f918b3d7c74dc8cd8bf410623b848add075a5f91adb8d", func := "folkmoot/folkmootlaw10.ClockPlays", spec := "clockPlays", apart := false }
def ClockPlaysSaid : Prop := clockPlaysRow.holds Try.pinned (OpenSpec.ofChange clockPlaysSpec)

/-- ITS FALSE NEIGHBOUR: 'it returns false'. Refute it at one input. -/
def clockPlaysWrong : ChangeSpec := { name := "clockPlays", fn := fun _ => fun
  | [d1, d2] => { results := [.lit (.bool false)], args := [d1, d2] }
  | _ => none }
def ClockPlaysWrongFalsely : Prop := clockPlaysRow.holds Try.pinned (OpenSpec.ofChange clockPlaysWrong)

/-- 'folkmootlaw10.ClockRises': WHATEVER THE INPUT: true; the input reads as it did. -/
def clockRisesSpec : ChangeSpec := { name := "clockRises", fn := fun _ => fun
  | [d1, d2] => { results := [.lit (.bool true)], args := [d1, d2] }
  | _ => none }
def clockRisesRow : OpenClaim := { program := "ytpoimhjencpieaa", sum := "37d8f546734e902d6d5f918b3d7c74dc8cd8bf410623b848add075a5f91adb8d", func := "folkmoot/folkmootlaw10.ClockRises", spec := "clockRises", apart := false }
def ClockRisesSaid : Prop := clockRisesRow.holds Try.pinned (OpenSpec.ofChange clockRisesSpec)

/-- ITS FALSE NEIGHBOUR: 'it returns false'. Refute it at one input. -/
def clockRisesWrong : ChangeSpec := { name := "clockRises", fn := fun _ => fun
  | [d1, d2] => { results := [.lit (.bool false)], args := [d1, d2] }
  | _ => none }
def ClockRisesWrongFalsely : Prop := clockRisesRow.holds Try.pinned (OpenSpec.ofChange clockRisesWrong)

/-- 'folkmootlaw10.ClockEnds': WHATEVER THE INPUT: true; the input reads as it did. -/
def clockEndsSpec : ChangeSpec := { name := "clockEnds", fn := fun _ => fun
  | [d1, d2] => { results := [.lit (.bool true)], args := [d1, d2] }
  | _ => none }
def clockEndsRow : OpenClaim := { program := "ytpoimhjencpieaa", sum := "37d8f546734e902d6d5f918b3d7c74dc8cd8bf410623b848add075a5f91adb8d", func := "folkmoot/folkmootlaw10.ClockEnds", spec := "clockEnds", apart := false }
def ClockEndsSaid : Prop := clockEndsRow.holds Try.pinned (OpenSpec.ofChange clockEndsSpec)

/-- ITS FALSE NEIGHBOUR: 'it returns false'. Refute it at one input. -/
def clockEndsWrong : ChangeSpec := { name := "clockEnds", fn := fun _ => fun
  | [d1, d2] => { results := [.lit (.bool false)], args := [d1, d2] }
  | _ => none }
def ClockEndsWrongFalsely : Prop := clockEndsRow.holds Try.pinned (OpenSpec.ofChange clockEndsWrong)

/- THE SECOND FORM. 'bulk': how many values and letters a reading holds, each counted each time it is reached (what is shared counts as often as it is met; a slice's spare places count too). A statement '..UptoSaid' is the law's where the arguments, and the package variables that the reading takes, are together of bulk at most 1048576: NARROWER than '..Said'. Prove '..Said' where nothing that the law and all that it calls make is longer than what came in: it says more and counts as full. Else prove '..UptoSaid'. A law counts once. -/
mutual
def uptoBulk {H : Type} : DataW H → Nat
  | .lit (.string bytes) => bytes.length + 1
  | .lit _ => 1
  | .nil => 1
  | .ptr d => uptoBulk d + 1
  | .slice elems spare => uptoBulkAll elems + uptoBulkAll spare + 1
  | .agg parts => uptoBulkAll parts + 1
  | .iface _ d => uptoBulk d + 1
  | .map entries => uptoBulkEntries entries + 1
  | .held _ => 1
def uptoBulkAll {H : Type} : List (DataW H) → Nat
  | [] => 0
  | d :: r => uptoBulk d + uptoBulkAll r
def uptoBulkEntries {H : Type} : List (Lit × DataW H) → Nat
  | [] => 0
  | x :: r => uptoBulkEntry x + uptoBulkEntries r
def uptoBulkEntry {H : Type} : Lit × DataW H → Nat
  | (.string bytes, d) => bytes.length + uptoBulk d + 1
  | (_, d) => uptoBulk d + 1
 end
def uptoSmall : (H : Type) → List (DataW H) → Bool := fun _ ds => decide (uptoBulkAll ds ≤ 1048576)
def OpenSpec.upto (s : _root_.Go.ChangeSpec) : _root_.Go.OpenSpec := { _root_.Go.OpenSpec.ofChange s with cond := some uptoSmall }

/-- 'folkmootlaw6.QuorumAny', WHERE WHAT IT READS IS OF BULK AT MOST 1048576: true; the input reads as it did. -/
def quorumAnyUptoRow : OpenClaim := { program := "ytpoimhjencpieaa", sum := "37d8f546734e902d6d5f918b3d7c74dc8cd8bf410623b848add075a5f91adb8d", func := "folkmoot/folkmootlaw6.QuorumAny", spec := "quorumAny", unfollowed := true, recurses := true, apart := false, narrowed := true }
def QuorumAnyUptoSaid : Prop := quorumAnyUptoRow.holds Try.pinned (OpenSpec.upto quorumAnySpec)

/-- 'folkmootlaw6.QuorumMeet', WHERE WHAT IT READS IS OF BULK AT MOST 1048576: true; the input reads as it did. -/
def quorumMeetUptoRow : OpenClaim := { program := "ytpoimhjencpieaa", sum := "37d8f546734e902d6d5f918b3d7c74dc8cd8bf410623b848add075a5f91adb8d", func := "folkmoot/folkmootlaw6.QuorumMeet", spec := "quorumMeet", unfollowed := true, recurses := true, apart := false, narrowed := true }
def QuorumMeetUptoSaid : Prop := quorumMeetUptoRow.holds Try.pinned (OpenSpec.upto quorumMeetSpec)

/-- 'folkmootlaw6.QuorumBy', WHERE WHAT IT READS IS OF BULK AT MOST 1048576: true; the input reads as it did. -/
def quorumByUptoRow : OpenClaim := { program := "ytpoimhjencpieaa", sum := "37d8f546734e902d6d5f918b3d7c74dc8cd8bf410623b848add075a5f91adb8d", func := "folkmoot/folkmootlaw6.QuorumBy", spec := "quorumBy", unfollowed := true, recurses := true, apart := false, narrowed := true }
def QuorumByUptoSaid : Prop := quorumByUptoRow.holds Try.pinned (OpenSpec.upto quorumBySpec)

/-- 'folkmootlaw6.QuorumMore', WHERE WHAT IT READS IS OF BULK AT MOST 1048576: true; the input reads as it did. -/
def quorumMoreUptoRow : OpenClaim := { program := "ytpoimhjencpieaa", sum := "37d8f546734e902d6d5f918b3d7c74dc8cd8bf410623b848add075a5f91adb8d", func := "folkmoot/folkmootlaw6.QuorumMore", spec := "quorumMore", unfollowed := true, recurses := true, apart := false, narrowed := true }
def QuorumMoreUptoSaid : Prop := quorumMoreUptoRow.holds Try.pinned (OpenSpec.upto quorumMoreSpec)

/-- 'folkmootlaw6.QuorumEdges', WHERE WHAT IT READS IS OF BULK AT MOST 1048576: true; the input reads as it did. -/
def quorumEdgesUptoRow : OpenClaim := { program := "ytpoimhjencpieaa", sum := "37d8f546734e902d6d5f918b3d7c74dc8cd8bf410623b848add075a5f91adb8d", func := "folkmoot/folkmootlaw6.QuorumEdges", spec := "quorumEdges", unfollowed := true, recurses := true, apart := false, narrowed := true }
def QuorumEdgesUptoSaid : Prop := quorumEdgesUptoRow.holds Try.pinned (OpenSpec.upto quorumEdgesSpec)

/-- 'folkmootlaw7.BoxPlays', WHERE WHAT IT READS IS OF BULK AT MOST 1048576: true; the input reads as it did. -/
def boxPlaysUptoRow : OpenClaim := { program := "ytpoimhjencpieaa", sum := "37d8f546734e902d6d5f918b3d7c74dc8cd8bf410623b848add075a5f91adb8d", func := "folkmoot/folkmootlaw7.BoxPlays", spec := "boxPlays", apart := false, narrowed := true }
def BoxPlaysUptoSaid : Prop := boxPlaysUptoRow.holds Try.pinned (OpenSpec.upto boxPlaysSpec)

/-- 'folkmootlaw7.BoxWords', WHERE WHAT IT READS IS OF BULK AT MOST 1048576: true; the input reads as it did. -/
def boxWordsUptoRow : OpenClaim := { program := "ytpoimhjencpieaa", sum := "37d8f546734e902d6d5f918b3d7c74dc8cd8bf410623b848add075a5f91adb8d", func := "folkmoot/folkmootlaw7.BoxWords", spec := "boxWords", apart := false, narrowed := true }
def BoxWordsUptoSaid : Prop := boxWordsUptoRow.holds Try.pinned (OpenSpec.upto boxWordsSpec)

/-- 'folkmootlaw8.WalPlays', WHERE WHAT IT READS IS OF BULK AT MOST 1048576: true; the input reads as it did. -/
def walPlaysUptoRow : OpenClaim := { program := "ytpoimhjencpieaa", sum := "37d8f546734e902d6d5f918b3d7c74dc8cd8bf410623b848add075a5f91adb8d", func := "folkmoot/folkmootlaw8.WalPlays", spec := "walPlays", apart := false, narrowed := true }
def WalPlaysUptoSaid : Prop := walPlaysUptoRow.holds Try.pinned (OpenSpec.upto walPlaysSpec)

/-- 'folkmootlaw8.WalFronts', WHERE WHAT IT READS IS OF BULK AT MOST 1048576: true; the input reads as it did. -/
def walFrontsUptoRow : OpenClaim := { program := "ytpoimhjencpieaa", sum := "37d8f546734e902d6d5f918b3d7c74dc8cd8bf410623b848add075a5f91adb8d", func := "folkmoot/folkmootlaw8.WalFronts", spec := "walFronts", apart := false, narrowed := true }
def WalFrontsUptoSaid : Prop := walFrontsUptoRow.holds Try.pinned (OpenSpec.upto walFrontsSpec)

/-- 'folkmootlaw10.ClockPlays', WHERE WHAT IT READS IS OF BULK AT MOST 1048576: true; the input reads as it did. -/
def clockPlaysUptoRow : OpenClaim := { program := "ytpoimhjencpieaa", sum := "37d8f546734e902d6d5f918b3d7c74dc8cd8bf410623b848add075a5f91adb8d", func := "folkmoot/folkmootlaw10.ClockPlays", spec := "clockPlays", apart := false, narrowed := true }
def ClockPlaysUptoSaid : Prop := clockPlaysUptoRow.holds Try.pinned (OpenSpec.upto clockPlaysSpec)

/-- 'folkmootlaw10.ClockRises', WHERE WHAT IT READS IS OF BULK AT MOST 1048576: true; the input reads as it did. -/
def clockRisesUptoRow : OpenClaim := { program := "ytpoimhjencpieaa", sum := "37d8f546734e902d6d5f918b3d7c74dc8cd8bf410623b848add075a5f91adb8d", func := "folkmoot/folkmootlaw10.ClockRises", spec := "clockRises", apart := false, narrowed := true }
def ClockRisesUptoSaid : Prop := clockRisesUptoRow.holds Try.pinned (OpenSpec.upto clockRisesSpec)

/-- 'folkmootlaw10.ClockEnds', WHERE WHAT IT READS IS OF BULK AT MOST 1048576: true; the input reads as it did. -/
def clockEndsUptoRow : OpenClaim := { program := "ytpoimhjencpieaa", sum := "37d8f546734e902d6d5f918b3d7c74dc8cd8bf410623b848add075a5f91adb8d", func := "folkmoot/folkmootlaw10.ClockEnds", spec := "clockEnds", apart := false, narrowed := true }
def ClockEndsUptoSaid : Prop := clockEndsUptoRow.holds Try.pinned (OpenSpec.upto clockEndsSpec)

end Rows
end Go.Proofs.Ytpoimhjencpieaa
