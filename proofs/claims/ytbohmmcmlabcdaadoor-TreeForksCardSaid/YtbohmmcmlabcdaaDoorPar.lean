/- slices.Reverse at digests, maps.Clone at blocks, in plain words. -/
import Derived.Shelf.SlicesE.Reverse
import Derived.Shelf.SlMaps.Clone
import Derived.Ground.SlgnProg
import Derived.Ground.SlmcProg
import Derived.Test.YtbohmmcmlabcdaaDoorProg
namespace Go.Proofs.YtbohmmcmlabcdaaDoor
set_option linter.unusedSimpArgs false
set_option linter.unusedVariables false
open Go.Shelf Go.Lib Go.Sort Go.RowKit Go.Maps
def Tryd.revD_ren : Go.Shelf.Ren := ⟨fun | 35 => 30 | n => n, fun | 22 => 27 | 23 => 26 | 3 => 3 | 4 => 4 | 0 => 0 | n => n, fun | n => n⟩
theorem Tryd.revD : Go.Proofs.SlLaysE.n35 Tryd.prog Tryd.revD_ren := {
 mixed := by kernel_rfl
 f35 := ⟨Tryd.f30.name, by decide, Tryd.func30.trans (congrArg some (by kernel_rfl))⟩
 t0 := Tryd.underlying0
 a0 := Tryd.isAgg0
 z0 := Tryd.sizeOf0
 v0 := Tryd.zeroValue0
 t3 := Tryd.underlying3
 a3 := Tryd.isAgg3
 z3 := Tryd.sizeOf3
 v3 := Tryd.zeroValue3
 t4 := Tryd.underlying4
 a4 := Tryd.isAgg4
 z4 := Tryd.sizeOf4
 v4 := Tryd.zeroValue4
 t22 := Tryd.underlying27
 a22 := Tryd.isAgg27
 z22 := Tryd.sizeOf27
 v22 := Tryd.zeroValue27
 a23 := Tryd.isAgg26
 z23 := Tryd.sizeOf26 }
def Tryd.cloneM_ren : Go.Shelf.Ren := ⟨fun | 5 => 34 | 7 => 45 | n => n, fun | 23 => 58 | 25 => 26 | 3 => 33 | 4 => 4 | 20 => 20 | n => n, fun | n => n⟩
theorem Tryd.cloneM : Go.Proofs.SlLaysW.n5 Tryd.prog Tryd.cloneM_ren := {
 mixed := by kernel_rfl
 f5 := ⟨Tryd.f34.name, by decide, Tryd.func34.trans (congrArg some (by kernel_rfl))⟩
 f7 := Tryd.func45.trans (congrArg some (by kernel_rfl))
 t4 := Tryd.underlying4
 a4 := Tryd.isAgg4
 z4 := Tryd.sizeOf4
 v4 := Tryd.zeroValue4
 t20 := Tryd.underlying20
 a20 := Tryd.isAgg20
 z20 := Tryd.sizeOf20
 v20 := Tryd.zeroValue20
 t23 := Tryd.underlying58
 a23 := Tryd.isAgg58
 z23 := Tryd.sizeOf58
 v23 := Tryd.zeroValue58 }
def digV (n : Nat) : Value := .int .u64 (n : Int)
theorem rev_dig (blk off cap : Nat) (zs : List Nat) (w : World) (hH : Holds digV w blk off zs.toArray) (hsz : zs.length ≤ 9223372036854775807) :
 Calls Tryd.prog 30 #[.slice (some ⟨blk, off, none⟩) zs.length cap] w fun e w' => e = .returned (.tuple #[]) ∧ ∃ n, w' = putRow digV (Sort.ahead w n) blk off zs.reverse.toArray :=
 AnyE.slices_Reverse Tryd.revD digV (fun _ => rfl) blk off cap zs w hH hsz
theorem clone_blk {H : Type} (k : TypeId) (R : Value → Option (DataW H × List MemPlace)) (b n : Nat) (D : DataW H) (w : World) (hown : w.ownsMap Tryd.prog k R b n D) :
 Calls Tryd.prog 34 #[.map (some b)] w fun e w' => e = .returned (.map (some w.heap.size)) ∧ w'.ownsMap Tryd.prog k R w.heap.size n D ∧ w'.ownsMap Tryd.prog k R b n D ∧ Below w.heap.size w w' :=
 AnyW.maps_Clone_owns Tryd.cloneM k R b n D w hown
end Go.Proofs.YtbohmmcmlabcdaaDoor
