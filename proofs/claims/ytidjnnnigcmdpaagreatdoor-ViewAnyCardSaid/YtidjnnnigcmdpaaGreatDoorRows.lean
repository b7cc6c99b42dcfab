/-
  NARROWER THAN 'FOR EVERY INPUT', by the rows' own cells (each row's printed sentence says how): BlockAny: laid · VoteAny: laid · QuorumsMeet: laid · BlockTells: laid · QCNeeds: laid · ViewAny: laid · LeaderTurns: laid · PaceRuns: laid · ViewBest: laid.
  DERIVED. THE GIVEN ROWS OF THIS SEAT. 9 by the template 'for every input the law returns true; each argument reads behind the call as it read before'; 0 by the template 'total and deterministic' (their statements: YtidjnnnigcmdpaaGreatDoorTotals.lean).
  GIVEN WITH THE SEED: the statements are not yours to turn. If you find one false, say at which input.
  Laid BY PROGRAM, IN A SANDBOX (cutbox-rows.mjs): the forced cells as the released guide's own fill.sh prints them over the translation 405f956ee589b82b… (all of the seat's roots in one cut). By AI agents, Wed Nov 11 2026. No macro, syntax, notation, axiom, sorry.
-/
import Derived.Test.YtidjnnnigcmdpaaGreatDoorChecked
import GoSem.Claim
import GoSem.ClaimJoined
import GoSem.ClaimMapViews
import Derived.JoinedTies
import Derived.KernelRfl
namespace Go.Proofs.YtidjnnnigcmdpaaGreatDoor
/- THE CELL 'sum', in the pinned program and in every row, IS THE sha256 OF THE DUMP (.gsa) THAT YtidjnnnigcmdpaaGreatDoorProg.lean LOADS. Nothing in Lean hashes anything: it is a label: what it is worth is what the hold of that sum in a sandbox is worth. -/
noncomputable def Tryz.pinned : Pinned := { name := "ytidjnnnigcmdpaagreatdoor", sum := "405f956ee589b82b31fadec69d3ef0130e10bc372db714dc170a2a7ec7e06853", checked := Tryz.checked }
namespace Rows
def none {H : Type} : Left H := { results := [], args := [] }

/- WHAT THE LISTED PACKAGE-LEVEL VARIABLES READ AS WHEN THE CALL BEGINS. Each datum BY PROGRAM (the guide's laid-datum.mjs) off the statement by which the dump's own 'gosem.cut.vars' lays the variable. In a bare row this is a premise. The card (YtidjnnnigcmdpaaGreatDoorCards.lean) ties it to the program's text. -/
def laid_math_bits_deBruijn32tab {H : Type} : DataW H := .agg [.lit (.int .u8 0), .lit (.int .u8 1), .lit (.int .u8 28), .lit (.int .u8 2), .lit (.int .u8 29), .lit (.int .u8 14), .lit (.int .u8 24), .lit (.int .u8 3), .lit (.int .u8 30), .lit (.int .u8 22), .lit (.int .u8 20), .lit (.int .u8 15), .lit (.int .u8 25), .lit (.int .u8 17), .lit (.int .u8 4), .lit (.int .u8 8), .lit (.int .u8 31), .lit (.int .u8 27), .lit (.int .u8 13), .lit (.int .u8 23), .lit (.int .u8 21), .lit (.int .u8 19), .lit (.int .u8 16), .lit (.int .u8 7), .lit (.int .u8 26), .lit (.int .u8 12), .lit (.int .u8 18), .lit (.int .u8 6), .lit (.int .u8 11), .lit (.int .u8 5), .lit (.int .u8 10), .lit (.int .u8 9)]
def laid_math_bits_deBruijn64tab {H : Type} : DataW H := .agg [.lit (.int .u8 0), .lit (.int .u8 1), .lit (.int .u8 56), .lit (.int .u8 2), .lit (.int .u8 57), .lit (.int .u8 49), .lit (.int .u8 28), .lit (.int .u8 3), .lit (.int .u8 61), .lit (.int .u8 58), .lit (.int .u8 42), .lit (.int .u8 50), .lit (.int .u8 38), .lit (.int .u8 29), .lit (.int .u8 17), .lit (.int .u8 4), .lit (.int .u8 62), .lit (.int .u8 47), .lit (.int .u8 59), .lit (.int .u8 36), .lit (.int .u8 45), .lit (.int .u8 43), .lit (.int .u8 51), .lit (.int .u8 22), .lit (.int .u8 53), .lit (.int .u8 39), .lit (.int .u8 33), .lit (.int .u8 30), .lit (.int .u8 24), .lit (.int .u8 18), .lit (.int .u8 12), .lit (.int .u8 5), .lit (.int .u8 63), .lit (.int .u8 55), .lit (.int .u8 48), .lit (.int .u8 27), .lit (.int .u8 60), .lit (.int .u8 41), .lit (.int .u8 37), .lit (.int .u8 16), .lit (.int .u8 46), .lit (.int .u8 35), .lit (.int .u8 44), .lit (.int .u8 21), .lit (.int .u8 52), .lit (.int .u8 32), .lit (.int .u8 23), .lit (.int .u8 11), .lit (.int .u8 54), .lit (.int .u8 26), .lit (.int .u8 40), .lit (.int .u8 15), .lit (.int .u8 34), .lit (.int .u8 20), .lit (.int .u8 31), .lit (.int .u8 10), .lit (.int .u8 25), .lit (.int .u8 14), .lit (.int .u8 19), .lit (.int .u8 9), .lit (.int .u8 13), .lit (.int .u8 8), .lit (.int .u8 7), .lit (.int .u8 6)]
def laid_internal_strconv_uint64pow10 {H : Type} : DataW H := .agg [.lit (.int .u64 1), .lit (.int .u64 10), .lit (.int .u64 100), .lit (.int .u64 1000), .lit (.int .u64 10000), .lit (.int .u64 100000), .lit (.int .u64 1000000), .lit (.int .u64 10000000), .lit (.int .u64 100000000), .lit (.int .u64 1000000000), .lit (.int .u64 10000000000), .lit (.int .u64 100000000000), .lit (.int .u64 1000000000000), .lit (.int .u64 10000000000000), .lit (.int .u64 100000000000000), .lit (.int .u64 1000000000000000), .lit (.int .u64 10000000000000000), .lit (.int .u64 100000000000000000), .lit (.int .u64 1000000000000000000), .lit (.int .u64 10000000000000000000)]

/-- 'folkmootlaw16.BlockAny': WHATEVER THE INPUT: true; the input reads as it did. -/
def blockAnySpec : ChangeSpec := { name := "blockAny", fn := fun _ => fun
  | [d1, d2] => { results := [.lit (.bool true)], args := [d1, d2] }
  | _ => none }
def blockAnyRow : OpenClaim := { program := "ytidjnnnigcmdpaagreatdoor", sum := "405f956ee589b82b31fadec69d3ef0130e10bc372db714dc170a2a7ec7e06853", func := "folkmoot/folkmootlaw16.BlockAny", spec := "blockAny", inPlace := ["internal/abi.NoEscape", "internal/bytealg.MakeNoZero"], unfollowed := true, recurses := true, named := ["internal/strconv.uint64pow10", "math/bits.deBruijn32tab", "math/bits.deBruijn64tab"], apart := false, laid := [("math/bits.deBruijn32tab", laid_math_bits_deBruijn32tab), ("math/bits.deBruijn64tab", laid_math_bits_deBruijn64tab), ("internal/strconv.uint64pow10", laid_internal_strconv_uint64pow10)] }
def BlockAnySaid : Prop := blockAnyRow.holds Tryz.pinned (OpenSpec.ofChange blockAnySpec)

/-- ITS FALSE NEIGHBOUR: 'it returns false'. Refute it at one input. -/
def blockAnyWrong : ChangeSpec := { name := "blockAny", fn := fun _ => fun
  | [d1, d2] => { results := [.lit (.bool false)], args := [d1, d2] }
  | _ => none }
def BlockAnyWrongFalsely : Prop := blockAnyRow.holds Tryz.pinned (OpenSpec.ofChange blockAnyWrong)

/-- 'folkmootlaw16.VoteAny': WHATEVER THE INPUT: true; the input reads as it did. -/
def voteAnySpec : ChangeSpec := { name := "voteAny", fn := fun _ => fun
  | [d1, d2, d3, d4] => { results := [.lit (.bool true)], args := [d1, d2, d3, d4] }
  | _ => none }
def voteAnyRow : OpenClaim := { program := "ytidjnnnigcmdpaagreatdoor", sum := "405f956ee589b82b31fadec69d3ef0130e10bc372db714dc170a2a7ec7e06853", func := "folkmoot/folkmootlaw16.VoteAny", spec := "voteAny", inPlace := ["internal/abi.NoEscape", "internal/bytealg.MakeNoZero"], unfollowed := true, recurses := true, named := ["internal/strconv.uint64pow10", "math/bits.deBruijn32tab", "math/bits.deBruijn64tab"], apart := false, laid := [("math/bits.deBruijn32tab", laid_math_bits_deBruijn32tab), ("math/bits.deBruijn64tab", laid_math_bits_deBruijn64tab), ("internal/strconv.uint64pow10", laid_internal_strconv_uint64pow10)] }
def VoteAnySaid : Prop := voteAnyRow.holds Tryz.pinned (OpenSpec.ofChange voteAnySpec)

/-- ITS FALSE NEIGHBOUR: 'it returns false'. Refute it at one input. -/
def voteAnyWrong : ChangeSpec := { name := "voteAny", fn := fun _ => fun
  | [d1, d2, d3, d4] => { results := [.lit (.bool false)], args := [d1, d2, d3, d4] }
  | _ => none }
def VoteAnyWrongFalsely : Prop := voteAnyRow.holds Tryz.pinned (OpenSpec.ofChange voteAnyWrong)

/-- 'folkmootlaw16.QuorumsMeet': WHATEVER THE INPUT: true; the input reads as it did. -/
def quorumsMeetSpec : ChangeSpec := { name := "quorumsMeet", fn := fun _ => fun
  | [d1, d2, d3] => { results := [.lit (.bool true)], args := [d1, d2, d3] }
  | _ => none }
def quorumsMeetRow : OpenClaim := { program := "ytidjnnnigcmdpaagreatdoor", sum := "405f956ee589b82b31fadec69d3ef0130e10bc372db714dc170a2a7ec7e06853", func := "folkmoot/folkmootlaw16.QuorumsMeet", spec := "quorumsMeet", inPlace := ["internal/abi.NoEscape", "internal/bytealg.MakeNoZero"], unfollowed := true, recurses := true, named := ["internal/strconv.uint64pow10", "math/bits.deBruijn32tab", "math/bits.deBruijn64tab"], apart := false, laid := [("math/bits.deBruijn32tab", laid_math_bits_deBruijn32tab), ("math/bits.deBruijn64tab", laid_math_bits_deBruijn64tab), ("internal/strconv.uint64pow10", laid_internal_strconv_uint64pow10)] }
def QuorumsMeetSaid : Prop := quorumsMeetRow.holds Tryz.pinned (OpenSpec.ofChange quorumsMeetSpec)

/-- ITS FALSE NEIGHBOUR: 'it returns false'. Refute it at one input. -/
def quorumsMeetWrong : ChangeSpec := { name := "quorumsMeet", fn := fun _ => fun
  | [d1, d2, d3] => { results := [.lit (.bool false)], args := [d1, d2, d3] }
  | _ => none }
def QuorumsMeetWrongFalsely : Prop := quorumsMeetRow.holds Tryz.pinned (OpenSpec.ofChange quorumsMeetWrong)

/-- 'folkmootlaw16.BlockTells': WHATEVER THE INPUT: true; the input reads as it did. -/
def blockTellsSpec : ChangeSpec := { name := "blockTells", fn := fun _ => fun
  | [d1, d2, d3, d4] => { results := [.lit (.bool true)], args := [d1, d2, d3, d4] }
  | _ => none }
def blockTellsRow : OpenClaim := { program := "ytidjnnnigcmdpaagreatdoor", sum := "405f956ee589b82b31fadec69d3ef0130e10bc372db714dc170a2a7ec7e06853", func := "folkmoot/folkmootlaw16.BlockTells", spec := "blockTells", inPlace := ["internal/abi.NoEscape", "internal/bytealg.MakeNoZero"], unfollowed := true, recurses := true, named := ["internal/strconv.uint64pow10", "math/bits.deBruijn32tab", "math/bits.deBruijn64tab"], apart := false, laid := [("math/bits.deBruijn32tab", laid_math_bits_deBruijn32tab), ("math/bits.deBruijn64tab", laid_math_bits_deBruijn64tab), ("internal/strconv.uint64pow10", laid_internal_strconv_uint64pow10)] }
def BlockTellsSaid : Prop := blockTellsRow.holds Tryz.pinned (OpenSpec.ofChange blockTellsSpec)

/-- ITS FALSE NEIGHBOUR: 'it returns false'. Refute it at one input. -/
def blockTellsWrong : ChangeSpec := { name := "blockTells", fn := fun _ => fun
  | [d1, d2, d3, d4] => { results := [.lit (.bool false)], args := [d1, d2, d3, d4] }
  | _ => none }
def BlockTellsWrongFalsely : Prop := blockTellsRow.holds Tryz.pinned (OpenSpec.ofChange blockTellsWrong)

/-- 'folkmootlaw16.QCNeeds': WHATEVER THE INPUT: true; the input reads as it did. -/
def qCNeedsSpec : ChangeSpec := { name := "qCNeeds", fn := fun _ => fun
  | [d1, d2, d3] => { results := [.lit (.bool true)], args := [d1, d2, d3] }
  | _ => none }
def qCNeedsRow : OpenClaim := { program := "ytidjnnnigcmdpaagreatdoor", sum := "405f956ee589b82b31fadec69d3ef0130e10bc372db714dc170a2a7ec7e06853", func := "folkmoot/folkmootlaw16.QCNeeds", spec := "qCNeeds", inPlace := ["internal/abi.NoEscape", "internal/bytealg.MakeNoZero"], unfollowed := true, recurses := true, named := ["internal/strconv.uint64pow10", "math/bits.deBruijn32tab", "math/bits.deBruijn64tab"], apart := false, laid := [("math/bits.deBruijn32tab", laid_math_bits_deBruijn32tab), ("math/bits.deBruijn64tab", laid_math_bits_deBruijn64tab), ("internal/strconv.uint64pow10", laid_internal_strconv_uint64pow10)] }
def QCNeedsSaid : Prop := qCNeedsRow.holds Tryz.pinned (OpenSpec.ofChange qCNeedsSpec)

/-- ITS FALSE NEIGHBOUR: 'it returns false'. Refute it at one input. -/
def qCNeedsWrong : ChangeSpec := { name := "qCNeeds", fn := fun _ => fun
  | [d1, d2, d3] => { results := [.lit (.bool false)], args := [d1, d2, d3] }
  | _ => none }
def QCNeedsWrongFalsely : Prop := qCNeedsRow.holds Tryz.pinned (OpenSpec.ofChange qCNeedsWrong)

/-- 'folkmootlaw19.ViewAny': WHATEVER THE INPUT: true; the input reads as it did. -/
def viewAnySpec : ChangeSpec := { name := "viewAny", fn := fun _ => fun
  | [d1, d2, d3] => { results := [.lit (.bool true)], args := [d1, d2, d3] }
  | _ => none }
def viewAnyRow : OpenClaim := { program := "ytidjnnnigcmdpaagreatdoor", sum := "405f956ee589b82b31fadec69d3ef0130e10bc372db714dc170a2a7ec7e06853", func := "folkmoot/folkmootlaw19.ViewAny", spec := "viewAny", inPlace := ["internal/abi.NoEscape", "internal/bytealg.MakeNoZero"], unfollowed := true, recurses := true, named := ["internal/strconv.uint64pow10", "math/bits.deBruijn32tab", "math/bits.deBruijn64tab"], apart := false, laid := [("math/bits.deBruijn32tab", laid_math_bits_deBruijn32tab), ("math/bits.deBruijn64tab", laid_math_bits_deBruijn64tab), ("internal/strconv.uint64pow10", laid_internal_strconv_uint64pow10)] }
def ViewAnySaid : Prop := viewAnyRow.holds Tryz.pinned (OpenSpec.ofChange viewAnySpec)

/-- ITS FALSE NEIGHBOUR: 'it returns false'. Refute it at one input. -/
def viewAnyWrong : ChangeSpec := { name := "viewAny", fn := fun _ => fun
  | [d1, d2, d3] => { results := [.lit (.bool false)], args := [d1, d2, d3] }
  | _ => none }
def ViewAnyWrongFalsely : Prop := viewAnyRow.holds Tryz.pinned (OpenSpec.ofChange viewAnyWrong)

/-- 'folkmootlaw19.LeaderTurns': WHATEVER THE INPUT: true; the input reads as it did. -/
def leaderTurnsSpec : ChangeSpec := { name := "leaderTurns", fn := fun _ => fun
  | [d1, d2] => { results := [.lit (.bool true)], args := [d1, d2] }
  | _ => none }
def leaderTurnsRow : OpenClaim := { program := "ytidjnnnigcmdpaagreatdoor", sum := "405f956ee589b82b31fadec69d3ef0130e10bc372db714dc170a2a7ec7e06853", func := "folkmoot/folkmootlaw19.LeaderTurns", spec := "leaderTurns", inPlace := ["internal/abi.NoEscape", "internal/bytealg.MakeNoZero"], unfollowed := true, recurses := true, named := ["internal/strconv.uint64pow10", "math/bits.deBruijn32tab", "math/bits.deBruijn64tab"], apart := false, laid := [("math/bits.deBruijn32tab", laid_math_bits_deBruijn32tab), ("math/bits.deBruijn64tab", laid_math_bits_deBruijn64tab), ("internal/strconv.uint64pow10", laid_internal_strconv_uint64pow10)] }
def LeaderTurnsSaid : Prop := leaderTurnsRow.holds Tryz.pinned (OpenSpec.ofChange leaderTurnsSpec)

/-- ITS FALSE NEIGHBOUR: 'it returns false'. Refute it at one input. -/
def leaderTurnsWrong : ChangeSpec := { name := "leaderTurns", fn := fun _ => fun
  | [d1, d2] => { results := [.lit (.bool false)], args := [d1, d2] }
  | _ => none }
def LeaderTurnsWrongFalsely : Prop := leaderTurnsRow.holds Tryz.pinned (OpenSpec.ofChange leaderTurnsWrong)

/-- 'folkmootlaw19.PaceRuns': WHATEVER THE INPUT: true; the input reads as it did. -/
def paceRunsSpec : ChangeSpec := { name := "paceRuns", fn := fun _ => fun
  | [d1, d2, d3, d4] => { results := [.lit (.bool true)], args := [d1, d2, d3, d4] }
  | _ => none }
def paceRunsRow : OpenClaim := { program := "ytidjnnnigcmdpaagreatdoor", sum := "405f956ee589b82b31fadec69d3ef0130e10bc372db714dc170a2a7ec7e06853", func := "folkmoot/folkmootlaw19.PaceRuns", spec := "paceRuns", inPlace := ["internal/abi.NoEscape", "internal/bytealg.MakeNoZero"], unfollowed := true, recurses := true, named := ["internal/strconv.uint64pow10", "math/bits.deBruijn32tab", "math/bits.deBruijn64tab"], apart := false, laid := [("math/bits.deBruijn32tab", laid_math_bits_deBruijn32tab), ("math/bits.deBruijn64tab", laid_math_bits_deBruijn64tab), ("internal/strconv.uint64pow10", laid_internal_strconv_uint64pow10)] }
def PaceRunsSaid : Prop := paceRunsRow.holds Tryz.pinned (OpenSpec.ofChange paceRunsSpec)

/-- ITS FALSE NEIGHBOUR: 'it returns false'. Refute it at one input. -/
def paceRunsWrong : ChangeSpec := { name := "paceRuns", fn := fun _ => fun
  | [d1, d2, d3, d4] => { results := [.lit (.bool false)], args := [d1, d2, d3, d4] }
  | _ => none }
def PaceRunsWrongFalsely : Prop := paceRunsRow.holds Tryz.pinned (OpenSpec.ofChange paceRunsWrong)

/-- 'folkmootlaw19.ViewBest': WHATEVER THE INPUT: true; the input reads as it did. -/
def viewBestSpec : ChangeSpec := { name := "viewBest", fn := fun _ => fun
  | [d1, d2, d3] => { results := [.lit (.bool true)], args := [d1, d2, d3] }
  | _ => none }
def viewBestRow : OpenClaim := { program := "ytidjnnnigcmdpaagreatdoor", sum := "405f956ee589b82b31fadec69d3ef0130e10bc372db714dc170a2a7ec7e06853", func := "folkmoot/folkmootlaw19.ViewBest", spec := "viewBest", inPlace := ["internal/abi.NoEscape", "internal/bytealg.MakeNoZero"], unfollowed := true, recurses := true, named := ["internal/strconv.uint64pow10", "math/bits.deBruijn32tab", "math/bits.deBruijn64tab"], apart := false, laid := [("math/bits.deBruijn32tab", laid_math_bits_deBruijn32tab), ("math/bits.deBruijn64tab", laid_math_bits_deBruijn64tab), ("internal/strconv.uint64pow10", laid_internal_strconv_uint64pow10)] }
def ViewBestSaid : Prop := viewBestRow.holds Tryz.pinned (OpenSpec.ofChange viewBestSpec)

/-- ITS FALSE NEIGHBOUR: 'it returns false'. Refute it at one input. -/
def viewBestWrong : ChangeSpec := { name := "viewBest", fn := fun _ => fun
  | [d1, d2, d3] => { results := [.lit (.bool false)], args := [d1, d2, d3] }
  | _ => none }
def ViewBestWrongFalsely : Prop := viewBestRow.holds Tryz.pinned (OpenSpec.ofChange viewBestWrong)

/- THE SECOND FORM. 'bulk': how many values and letters a reading holds, each counted each time it is reached (what is shared counts as often as it is met; a slice's spare places count too). A statement '..UptoSaid' is the law's where the arguments, and the package variables that the reading takes, are together of bulk at most 1048576: NARROWER than '..Said'. Prove '..Said' where nothing that the law and all that it calls make is longer than what came in: it says more and counts as full. Else prove '..UptoSaid'. A law counts once. -/
mutual
def uptoBulk {H : Type} : DataW H → Nat
  | .lit (.string bytes) => bytes.length + 1
  | .lit _ => 1
  | .nil => 1
  | .ptr d => uptoBulk d + 1
  | .slice elems spare => uptoBulkAll elems + uptoBulkAll spare + 1
  | .agg parts => uptoBulkAll parts + 1
  | .iface _ d => uptoBulk d + 1
  | .map entries => uptoBulkEntries entries + 1
  | .held _ => 1
def uptoBulkAll {H : Type} : List (DataW H) → Nat
  | [] => 0
  | d :: r => uptoBulk d + uptoBulkAll r
def uptoBulkEntries {H : Type} : List (Lit × DataW H) → Nat
  | [] => 0
  | x :: r => uptoBulkEntry x + uptoBulkEntries r
def uptoBulkEntry {H : Type} : Lit × DataW H → Nat
  | (.string bytes, d) => bytes.length + uptoBulk d + 1
  | (_, d) => uptoBulk d + 1
 end
def uptoSmall : (H : Type) → List (DataW H) → Bool := fun _ ds => decide (uptoBulkAll ds ≤ 1048576)
def OpenSpec.upto (s : _root_.Go.ChangeSpec) : _root_.Go.OpenSpec := { _root_.Go.OpenSpec.ofChange s with cond := some uptoSmall }

/-- 'folkmootlaw16.BlockAny', WHERE WHAT IT READS IS OF BULK AT MOST 1048576: true; the input reads as it did. -/
def blockAnyUptoRow : OpenClaim := { program := "ytidjnnnigcmdpaagreatdoor", sum := "405f956ee589b82b31fadec69d3ef0130e10bc372db714dc170a2a7ec7e06853", func := "folkmoot/folkmootlaw16.BlockAny", spec := "blockAny", inPlace := ["internal/abi.NoEscape", "internal/bytealg.MakeNoZero"], unfollowed := true, recurses := true, named := ["internal/strconv.uint64pow10", "math/bits.deBruijn32tab", "math/bits.deBruijn64tab"], apart := false, laid := [("math/bits.deBruijn32tab", laid_math_bits_deBruijn32tab), ("math/bits.deBruijn64tab", laid_math_bits_deBruijn64tab), ("internal/strconv.uint64pow10", laid_internal_strconv_uint64pow10)], narrowed := true }
def BlockAnyUptoSaid : Prop := blockAnyUptoRow.holds Tryz.pinned (OpenSpec.upto blockAnySpec)

/-- 'folkmootlaw16.VoteAny', WHERE WHAT IT READS IS OF BULK AT MOST 1048576: true; the input reads as it did. -/
def voteAnyUptoRow : OpenClaim := { program := "ytidjnnnigcmdpaagreatdoor", sum := "405f956ee589b82b31fadec69d3ef0130e10bc372db714dc170a2a7ec7e06853", func := "folkmoot/folkmootlaw16.VoteAny", spec := "voteAny", inPlace := ["internal/abi.NoEscape", "internal/bytealg.MakeNoZero"], unfollowed := true, recurses := true, named := ["internal/strconv.uint64pow10", "math/bits.deBruijn32tab", "math/bits.deBruijn64tab"], apart := false, laid := [("math/bits.deBruijn32tab", laid_math_bits_deBruijn32tab), ("math/bits.deBruijn64tab", laid_math_bits_deBruijn64tab), ("internal/strconv.uint64pow10", laid_internal_strconv_uint64pow10)], narrowed := true }
def VoteAnyUptoSaid : Prop := voteAnyUptoRow.holds Tryz.pinned (OpenSpec.upto voteAnySpec)

/-- 'folkmootlaw16.QuorumsMeet', WHERE WHAT IT READS IS OF BULK AT MOST 1048576: true; the input reads as it did. -/
def quorumsMeetUptoRow : OpenClaim := { program := "ytidjnnnigcmdpaagreatdoor", sum := "405f956ee589b82b31fadec69d3ef0130e10bc372db714dc170a2a7ec7e06853", func := "folkmoot/folkmootlaw16.QuorumsMeet", spec := "quorumsMeet", inPlace := ["internal/abi.NoEscape", "internal/bytealg.MakeNoZero"], unfollowed := true, recurses := true, named := ["internal/strconv.uint64pow10", "math/bits.deBruijn32tab", "math/bits.deBruijn64tab"], apart := false, laid := [("math/bits.deBruijn32tab", laid_math_bits_deBruijn32tab), ("math/bits.deBruijn64tab", laid_math_bits_deBruijn64tab), ("internal/strconv.uint64pow10", laid_internal_strconv_uint64pow10)], narrowed := true }
def QuorumsMeetUptoSaid : Prop := quorumsMeetUptoRow.holds Tryz.pinned (OpenSpec.upto quorumsMeetSpec)

/-- 'folkmootlaw16.BlockTells', WHERE WHAT IT READS IS OF BULK AT MOST 1048576: true; the input reads as it did. -/
def blockTellsUptoRow : OpenClaim := { program := "ytidjnnnigcmdpaagreatdoor", sum := "405f956ee589b82b31fadec69d3ef0130e10bc372db714dc170a2a7ec7e06853", func := "folkmoot/folkmootlaw16.BlockTells", spec := "blockTells", inPlace := ["internal/abi.NoEscape", "internal/bytealg.MakeNoZero"], unfollowed := true, recurses := true, named := ["internal/strconv.uint64pow10", "math/bits.deBruijn32tab", "math/bits.deBruijn64tab"], apart := false, laid := [("math/bits.deBruijn32tab", laid_math_bits_deBruijn32tab), ("math/bits.deBruijn64tab", laid_math_bits_deBruijn64tab), ("internal/strconv.uint64pow10", laid_internal_strconv_uint64pow10)], narrowed := true }
def BlockTellsUptoSaid : Prop := blockTellsUptoRow.holds Tryz.pinned (OpenSpec.upto blockTellsSpec)

/-- 'folkmootlaw16.QCNeeds', WHERE WHAT IT READS IS OF BULK AT MOST 1048576: true; the input reads as it did. -/
def qCNeedsUptoRow : OpenClaim := { program := "ytidjnnnigcmdpaagreatdoor", sum := "405f956ee589b82b31fadec69d3ef0130e10bc372db714dc170a2a7ec7e06853", func := "folkmoot/folkmootlaw16.QCNeeds", spec := "qCNeeds", inPlace := ["internal/abi.NoEscape", "internal/bytealg.MakeNoZero"], unfollowed := true, recurses := true, named := ["internal/strconv.uint64pow10", "math/bits.deBruijn32tab", "math/bits.deBruijn64tab"], apart := false, laid := [("math/bits.deBruijn32tab", laid_math_bits_deBruijn32tab), ("math/bits.deBruijn64tab", laid_math_bits_deBruijn64tab), ("internal/strconv.uint64pow10", laid_internal_strconv_uint64pow10)], narrowed := true }
def QCNeedsUptoSaid : Prop := qCNeedsUptoRow.holds Tryz.pinned (OpenSpec.upto qCNeedsSpec)

/-- 'folkmootlaw19.ViewAny', WHERE WHAT IT READS IS OF BULK AT MOST 1048576: true; the input reads as it did. -/
def viewAnyUptoRow : OpenClaim := { program := "ytidjnnnigcmdpaagreatdoor", sum := "405f956ee589b82b31fadec69d3ef0130e10bc372db714dc170a2a7ec7e06853", func := "folkmoot/folkmootlaw19.ViewAny", spec := "viewAny", inPlace := ["internal/abi.NoEscape", "internal/bytealg.MakeNoZero"], unfollowed := true, recurses := true, named := ["internal/strconv.uint64pow10", "math/bits.deBruijn32tab", "math/bits.deBruijn64tab"], apart := false, laid := [("math/bits.deBruijn32tab", laid_math_bits_deBruijn32tab), ("math/bits.deBruijn64tab", laid_math_bits_deBruijn64tab), ("internal/strconv.uint64pow10", laid_internal_strconv_uint64pow10)], narrowed := true }
def ViewAnyUptoSaid : Prop := viewAnyUptoRow.holds Tryz.pinned (OpenSpec.upto viewAnySpec)

/-- 'folkmootlaw19.LeaderTurns', WHERE WHAT IT READS IS OF BULK AT MOST 1048576: true; the input reads as it did. -/
def leaderTurnsUptoRow : OpenClaim := { program := "ytidjnnnigcmdpaagreatdoor", sum := "405f956ee589b82b31fadec69d3ef0130e10bc372db714dc170a2a7ec7e06853", func := "folkmoot/folkmootlaw19.LeaderTurns", spec := "leaderTurns", inPlace := ["internal/abi.NoEscape", "internal/bytealg.MakeNoZero"], unfollowed := true, recurses := true, named := ["internal/strconv.uint64pow10", "math/bits.deBruijn32tab", "math/bits.deBruijn64tab"], apart := false, laid := [("math/bits.deBruijn32tab", laid_math_bits_deBruijn32tab), ("math/bits.deBruijn64tab", laid_math_bits_deBruijn64tab), ("internal/strconv.uint64pow10", laid_internal_strconv_uint64pow10)], narrowed := true }
def LeaderTurnsUptoSaid : Prop := leaderTurnsUptoRow.holds Tryz.pinned (OpenSpec.upto leaderTurnsSpec)

/-- 'folkmootlaw19.PaceRuns', WHERE WHAT IT READS IS OF BULK AT MOST 1048576: true; the input reads as it did. -/
def paceRunsUptoRow : OpenClaim := { program := "ytidjnnnigcmdpaagreatdoor", sum := "405f956ee589b82b31fadec69d3ef0130e10bc372db714dc170a2a7ec7e06853", func := "folkmoot/folkmootlaw19.PaceRuns", spec := "paceRuns", inPlace := ["internal/abi.NoEscape", "internal/bytealg.MakeNoZero"], unfollowed := true, recurses := true, named := ["internal/strconv.uint64pow10", "math/bits.deBruijn32tab", "math/bits.deBruijn64tab"], apart := false, laid := [("math/bits.deBruijn32tab", laid_math_bits_deBruijn32tab), ("math/bits.deBruijn64tab", laid_math_bits_deBruijn64tab), ("internal/strconv.uint64pow10", laid_internal_strconv_uint64pow10)], narrowed := true }
def PaceRunsUptoSaid : Prop := paceRunsUptoRow.holds Tryz.pinned (OpenSpec.upto paceRunsSpec)

/-- 'folkmootlaw19.ViewBest', WHERE WHAT IT READS IS OF BULK AT MOST 1048576: true; the input reads as it did. -/
def viewBestUptoRow : OpenClaim := { program := "ytidjnnnigcmdpaagreatdoor", sum := "405f956ee589b82b31fadec69d3ef0130e10bc372db714dc170a2a7ec7e06853", func := "folkmoot/folkmootlaw19.ViewBest", spec := "viewBest", inPlace := ["internal/abi.NoEscape", "internal/bytealg.MakeNoZero"], unfollowed := true, recurses := true, named := ["internal/strconv.uint64pow10", "math/bits.deBruijn32tab", "math/bits.deBruijn64tab"], apart := false, laid := [("math/bits.deBruijn32tab", laid_math_bits_deBruijn32tab), ("math/bits.deBruijn64tab", laid_math_bits_deBruijn64tab), ("internal/strconv.uint64pow10", laid_internal_strconv_uint64pow10)], narrowed := true }
def ViewBestUptoSaid : Prop := viewBestUptoRow.holds Tryz.pinned (OpenSpec.upto viewBestSpec)

end Rows
end Go.Proofs.YtidjnnnigcmdpaaGreatDoor
