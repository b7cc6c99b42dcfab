/- slices.Sort at []int64, in plain words. -/
import Derived.Shelf.SortM.Plain
import Derived.Shelf.SortM.SortNone
import Derived.Ground.SlgmProg
import Derived.Shelf.SlGeneric
import Derived.Test.YtkpnheenacchhaaGreatDoorProg
set_option linter.unusedSimpArgs false
set_option linter.unusedVariables false
namespace Go.Proofs.YtkpnheenacchhaaGreatDoor
open Go.Shelf Go.Lib Go.Sort Go.RowKit
def Tryz.sortI6_ren:Go.Shelf.Ren:=⟨fun | 5=>238 | 8=>276 | 7=>275 | 19=>309 | 20=>288 | 10=>300 | 11=>301 | 12=>302 | 13=>303 | 14=>304 | 15=>305 | 16=>306 | 17=>307 | 18=>308 | 30=>325 | 31=>326 | 32=>327 | 33=>328 | 34=>329 | 35=>190 | 40=>338 | n=>n,fun | 23=>234 | 25=>2 | 3=>3 | 32=>210 | 22=>234 | 0=>0 | 44=>397 | 46=>65 | 4=>4 | 36=>407 | 35=>406 | 41=>226 | 5=>5 | 9=>9 | 53=>423 | 57=>427 | 63=>438 | 64=>439 | n=>n,fun | n=>n⟩
theorem Tryz.sortI6:Go.Proofs.SlLaysM.n5 Tryz.prog Tryz.sortI6_ren:={
 mixed:=by kernel_rfl
 f5:=⟨Tryz.f238.name,by decide,Tryz.func238.trans (congrArg some (by kernel_rfl))⟩
 f7:=⟨Tryz.f275.name,by decide,Tryz.func275.trans (congrArg some (by kernel_rfl))⟩
 f8:=Tryz.func276.trans (congrArg some (by kernel_rfl))
 f10:=⟨Tryz.f300.name,by decide,Tryz.func300.trans (congrArg some (by kernel_rfl))⟩
 f11:=⟨Tryz.f301.name,by decide,Tryz.func301.trans (congrArg some (by kernel_rfl))⟩
 f12:=⟨Tryz.f302.name,by decide,Tryz.func302.trans (congrArg some (by kernel_rfl))⟩
 f13:=⟨Tryz.f303.name,by decide,Tryz.func303.trans (congrArg some (by kernel_rfl))⟩
 f14:=⟨Tryz.f304.name,by decide,Tryz.func304.trans (congrArg some (by kernel_rfl))⟩
 f15:=⟨Tryz.f305.name,by decide,Tryz.func305.trans (congrArg some (by kernel_rfl))⟩
 f16:=⟨Tryz.f306.name,by decide,Tryz.func306.trans (congrArg some (by kernel_rfl))⟩
 f17:=⟨Tryz.f307.name,by decide,Tryz.func307.trans (congrArg some (by kernel_rfl))⟩
 f18:=⟨Tryz.f308.name,by decide,Tryz.func308.trans (congrArg some (by kernel_rfl))⟩
 f19:=Tryz.func309.trans (congrArg some (by kernel_rfl))
 f20:=Tryz.func288.trans (congrArg some (by kernel_rfl))
 f30:=⟨Tryz.f325.name,by decide,Tryz.func325.trans (congrArg some (by kernel_rfl))⟩
 f31:=Tryz.func326.trans (congrArg some (by kernel_rfl))
 f32:=Tryz.func327.trans (congrArg some (by kernel_rfl))
 f33:=⟨Tryz.f328.name,by decide,Tryz.func328.trans (congrArg some (by kernel_rfl))⟩
 f34:=⟨Tryz.f329.name,by decide,Tryz.func329.trans (congrArg some (by kernel_rfl))⟩
 f35:=⟨Tryz.f190.name,by decide,Tryz.func190.trans (congrArg some (by kernel_rfl))⟩
 f40:=⟨Tryz.f338.name,by decide,Tryz.func338.trans (congrArg some (by kernel_rfl))⟩
 t0:=Tryz.underlying0
 a0:=Tryz.isAgg0
 z0:=Tryz.sizeOf0
 v0:=Tryz.zeroValue0
 t3:=Tryz.underlying3
 a3:=Tryz.isAgg3
 z3:=Tryz.sizeOf3
 v3:=Tryz.zeroValue3
 t4:=Tryz.underlying4
 a4:=Tryz.isAgg4
 z4:=Tryz.sizeOf4
 v4:=Tryz.zeroValue4
 t5:=Tryz.underlying5
 a5:=Tryz.isAgg5
 z5:=Tryz.sizeOf5
 v5:=Tryz.zeroValue5
 t9:=Tryz.underlying9
 a9:=Tryz.isAgg9
 z9:=Tryz.sizeOf9
 v9:=Tryz.zeroValue9
 t22:=Tryz.underlying234
 a22:=Tryz.isAgg234
 z22:=Tryz.sizeOf234
 v22:=Tryz.zeroValue234
 t23:=Tryz.underlying234
 a23:=Tryz.isAgg234
 z23:=Tryz.sizeOf234
 v23:=Tryz.zeroValue234
 t25:=Tryz.underlying2
 a25:=Tryz.isAgg2
 z25:=Tryz.sizeOf2
 v25:=Tryz.zeroValue2
 t32:=Tryz.underlying210
 a32:=Tryz.isAgg210
 z32:=Tryz.sizeOf210
 v32:=Tryz.zeroValue210
 t35:=Tryz.underlying406
 a35:=Tryz.isAgg406
 z35:=Tryz.sizeOf406
 v35:=Tryz.zeroValue406
 t36:=Tryz.underlying407
 a36:=Tryz.isAgg407
 z36:=Tryz.sizeOf407
 v36:=Tryz.zeroValue407
 t41:=Tryz.underlying226
 a41:=Tryz.isAgg226
 z41:=Tryz.sizeOf226
 v41:=Tryz.zeroValue226
 t44:=Tryz.underlying397
 a44:=Tryz.isAgg397
 z44:=Tryz.sizeOf397
 v44:=Tryz.zeroValue397
 t46:=Tryz.underlying65
 a46:=Tryz.isAgg65
 z46:=Tryz.sizeOf65
 v46:=Tryz.zeroValue65
 t53:=Tryz.underlying423
 a53:=Tryz.isAgg423
 z53:=Tryz.sizeOf423
 v53:=Tryz.zeroValue423
 t57:=Tryz.underlying427
 a57:=Tryz.isAgg427
 z57:=Tryz.sizeOf427
 v57:=Tryz.zeroValue427
 t63:=Tryz.underlying438
 a63:=Tryz.isAgg438
 z63:=Tryz.sizeOf438
 v63:=Tryz.zeroValue438
 t64:=Tryz.underlying439
 a64:=Tryz.isAgg439
 z64:=Tryz.sizeOf439
 v64:=Tryz.zeroValue439 }
theorem kL (blk off cap:Nat) (zs:List Int) (w:World) (hH:Holds (Value.int .i64) w blk off zs.toArray) (hblk:blk<w.heap.size) (hsz:zs.length<4611686018427387904) :
 Calls Tryz.prog 238 #[.slice (some ⟨blk,off,none⟩) zs.length cap] w fun e w' =>
  e=.returned (.tuple #[])∧∃ n os,w'=grow (putRow (Value.int .i64) (Sort.ahead w n) blk off (zs.mergeSort fun x y=>decide (x≤y)).toArray) os:=AnyM.slices_Sort_int Tryz.sortI6 blk off cap zs w hH hblk hsz
theorem y5 (p:Option Addr) (cap:Nat) (w:World) :
 Calls Tryz.prog 238 #[.slice p 0 cap] w fun e w'=>e=.returned (.tuple #[])∧w'=w:=AnyM.slices_Sort_int_none Tryz.sortI6 p cap w
end Go.Proofs.YtkpnheenacchhaaGreatDoor
