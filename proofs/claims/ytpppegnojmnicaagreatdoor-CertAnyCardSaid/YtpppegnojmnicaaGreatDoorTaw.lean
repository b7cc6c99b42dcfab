/- maps.Keys at maps of ints, slices.Sorted of the keys, in plain words. -/
import Derived.Shelf.SlIterI.Nil
import Derived.Shelf.SortM.Plain
import Derived.Shelf.SortM.SortNone
import Derived.Ground.GgzProg
import Derived.Ground.SlgmProg
import Derived.Test.YtpppegnojmnicaaGreatDoorProg
set_option maxHeartbeats 1000000
set_option linter.unusedSimpArgs false
set_option linter.unusedVariables false
namespace Go.Proofs.YtpppegnojmnicaaGreatDoor
open Go.Shelf Go.Lib Go.Sort Go.RowKit Go.Maps
def Tryz.sortedK_ren:Go.Shelf.Ren:=⟨fun | 6=>239 | 8=>272 | 9=>273 | 11=>312 | 13=>271 | 12=>313 | 23=>310 | 24=>311 | 14=>338 | 15=>339 | 16=>340 | 17=>341 | 18=>342 | 19=>343 | 20=>344 | 21=>345 | 22=>346 | 25=>355 | 26=>334 | 27=>335 | 28=>356 | 29=>357 | 30=>358 | 31=>361 | n=>n,fun | 26=>3 | 28=>354 | 24=>341 | 0=>0 | 3=>3 | 37=>76 | 48=>421 | 50=>55 | 4=>4 | 40=>414 | 39=>413 | 45=>304 | 5=>5 | 9=>9 | 51=>438 | 55=>442 | 57=>458 | 58=>459 | 33=>273 | n=>n,fun | n=>n⟩
theorem Tryz.sortedK:Go.Proofs.SlLaysZI.n6 Tryz.prog Tryz.sortedK_ren:={
 mixed:=by kernel_rfl
 f6:=⟨Tryz.f239.name,by decide,Tryz.func239.trans (congrArg some (by kernel_rfl))⟩
 f8:=⟨Tryz.f272.name,by decide,Tryz.func272.trans (congrArg some (by kernel_rfl))⟩
 f11:=⟨Tryz.f312.name,by decide,Tryz.func312.trans (congrArg some (by kernel_rfl))⟩
 t0:=Tryz.underlying0
 a0:=Tryz.isAgg0
 z0:=Tryz.sizeOf0
 v0:=Tryz.zeroValue0
 t24:=Tryz.underlying341
 a24:=Tryz.isAgg341
 z24:=Tryz.sizeOf341
 v24:=Tryz.zeroValue341
 t26:=Tryz.underlying3
 a26:=Tryz.isAgg3
 z26:=Tryz.sizeOf3
 v26:=Tryz.zeroValue3
 t28:=Tryz.underlying354
 a28:=Tryz.isAgg354
 z28:=Tryz.sizeOf354
 v28:=Tryz.zeroValue354
 i26:=by kernel_rfl }
def Tryz.sortK_ren:Go.Shelf.Ren:=⟨fun | 5=>273 | 8=>271 | 7=>313 | 19=>310 | 20=>311 | 10=>338 | 11=>339 | 12=>340 | 13=>341 | 14=>342 | 15=>343 | 16=>344 | 17=>345 | 18=>346 | 30=>355 | 31=>334 | 32=>335 | 33=>356 | 34=>357 | 35=>358 | 40=>361 | n=>n,fun | 23=>341 | 25=>3 | 3=>3 | 32=>76 | 22=>341 | 0=>0 | 44=>421 | 46=>55 | 4=>4 | 36=>414 | 35=>413 | 41=>304 | 5=>5 | 9=>9 | 53=>438 | 57=>442 | 63=>458 | 64=>459 | n=>n,fun | n=>n⟩
theorem Tryz.sortK:Go.Proofs.SlLaysM.n5 Tryz.prog Tryz.sortK_ren:={
 mixed:=by kernel_rfl
 f5:=⟨Tryz.f273.name,by decide,Tryz.func273.trans (congrArg some (by kernel_rfl))⟩
 f7:=⟨Tryz.f313.name,by decide,Tryz.func313.trans (congrArg some (by kernel_rfl))⟩
 f8:=Tryz.func271.trans (congrArg some (by kernel_rfl))
 f10:=⟨Tryz.f338.name,by decide,Tryz.func338.trans (congrArg some (by kernel_rfl))⟩
 f11:=⟨Tryz.f339.name,by decide,Tryz.func339.trans (congrArg some (by kernel_rfl))⟩
 f12:=⟨Tryz.f340.name,by decide,Tryz.func340.trans (congrArg some (by kernel_rfl))⟩
 f13:=⟨Tryz.f341.name,by decide,Tryz.func341.trans (congrArg some (by kernel_rfl))⟩
 f14:=⟨Tryz.f342.name,by decide,Tryz.func342.trans (congrArg some (by kernel_rfl))⟩
 f15:=⟨Tryz.f343.name,by decide,Tryz.func343.trans (congrArg some (by kernel_rfl))⟩
 f16:=⟨Tryz.f344.name,by decide,Tryz.func344.trans (congrArg some (by kernel_rfl))⟩
 f17:=⟨Tryz.f345.name,by decide,Tryz.func345.trans (congrArg some (by kernel_rfl))⟩
 f18:=⟨Tryz.f346.name,by decide,Tryz.func346.trans (congrArg some (by kernel_rfl))⟩
 f19:=Tryz.func310.trans (congrArg some (by kernel_rfl))
 f20:=Tryz.func311.trans (congrArg some (by kernel_rfl))
 f30:=⟨Tryz.f355.name,by decide,Tryz.func355.trans (congrArg some (by kernel_rfl))⟩
 f31:=Tryz.func334.trans (congrArg some (by kernel_rfl))
 f32:=Tryz.func335.trans (congrArg some (by kernel_rfl))
 f33:=⟨Tryz.f356.name,by decide,Tryz.func356.trans (congrArg some (by kernel_rfl))⟩
 f34:=⟨Tryz.f357.name,by decide,Tryz.func357.trans (congrArg some (by kernel_rfl))⟩
 f35:=⟨Tryz.f358.name,by decide,Tryz.func358.trans (congrArg some (by kernel_rfl))⟩
 f40:=⟨Tryz.f361.name,by decide,Tryz.func361.trans (congrArg some (by kernel_rfl))⟩
 t0:=Tryz.underlying0
 a0:=Tryz.isAgg0
 z0:=Tryz.sizeOf0
 v0:=Tryz.zeroValue0
 t3:=Tryz.underlying3
 a3:=Tryz.isAgg3
 z3:=Tryz.sizeOf3
 v3:=Tryz.zeroValue3
 t4:=Tryz.underlying4
 a4:=Tryz.isAgg4
 z4:=Tryz.sizeOf4
 v4:=Tryz.zeroValue4
 t5:=Tryz.underlying5
 a5:=Tryz.isAgg5
 z5:=Tryz.sizeOf5
 v5:=Tryz.zeroValue5
 t9:=Tryz.underlying9
 a9:=Tryz.isAgg9
 z9:=Tryz.sizeOf9
 v9:=Tryz.zeroValue9
 t22:=Tryz.underlying341
 a22:=Tryz.isAgg341
 z22:=Tryz.sizeOf341
 v22:=Tryz.zeroValue341
 t23:=Tryz.underlying341
 a23:=Tryz.isAgg341
 z23:=Tryz.sizeOf341
 v23:=Tryz.zeroValue341
 t25:=Tryz.underlying3
 a25:=Tryz.isAgg3
 z25:=Tryz.sizeOf3
 v25:=Tryz.zeroValue3
 t32:=Tryz.underlying76
 a32:=Tryz.isAgg76
 z32:=Tryz.sizeOf76
 v32:=Tryz.zeroValue76
 t35:=Tryz.underlying413
 a35:=Tryz.isAgg413
 z35:=Tryz.sizeOf413
 v35:=Tryz.zeroValue413
 t36:=Tryz.underlying414
 a36:=Tryz.isAgg414
 z36:=Tryz.sizeOf414
 v36:=Tryz.zeroValue414
 t41:=Tryz.underlying304
 a41:=Tryz.isAgg304
 z41:=Tryz.sizeOf304
 v41:=Tryz.zeroValue304
 t44:=Tryz.underlying421
 a44:=Tryz.isAgg421
 z44:=Tryz.sizeOf421
 v44:=Tryz.zeroValue421
 t46:=Tryz.underlying55
 a46:=Tryz.isAgg55
 z46:=Tryz.sizeOf55
 v46:=Tryz.zeroValue55
 t53:=Tryz.underlying438
 a53:=Tryz.isAgg438
 z53:=Tryz.sizeOf438
 v53:=Tryz.zeroValue438
 t57:=Tryz.underlying442
 a57:=Tryz.isAgg442
 z57:=Tryz.sizeOf442
 v57:=Tryz.zeroValue442
 t63:=Tryz.underlying458
 a63:=Tryz.isAgg458
 z63:=Tryz.sizeOf458
 v63:=Tryz.zeroValue458
 t64:=Tryz.underlying459
 a64:=Tryz.isAgg459
 z64:=Tryz.sizeOf459
 v64:=Tryz.zeroValue459 }
def Tryz.keys240_ren:Go.Shelf.Ren:=⟨fun | 7=>240 | 10=>274 | n=>n,fun | 23=>350 | 26=>3 | 3=>91 | 28=>354 | 0=>0 | 27=>353 | 33=>273 | 4=>4 | n=>n,fun | n=>n⟩
theorem Tryz.keys240:Go.Proofs.SlLaysZI.n7 Tryz.prog Tryz.keys240_ren:={
 mixed:=by kernel_rfl
 f7:=⟨Tryz.f240.name,by decide,Tryz.func240.trans (congrArg some (by kernel_rfl))⟩
 f10:=⟨Tryz.f274.name,by decide,Tryz.func274.trans (congrArg some (by kernel_rfl))⟩
 t0:=Tryz.underlying0
 a0:=Tryz.isAgg0
 z0:=Tryz.sizeOf0
 v0:=Tryz.zeroValue0
 t4:=Tryz.underlying4
 a4:=Tryz.isAgg4
 z4:=Tryz.sizeOf4
 v4:=Tryz.zeroValue4
 t23:=Tryz.underlying350
 a23:=Tryz.isAgg350
 z23:=Tryz.sizeOf350
 v23:=Tryz.zeroValue350
 t26:=Tryz.underlying3
 a26:=Tryz.isAgg3
 z26:=Tryz.sizeOf3
 v26:=Tryz.zeroValue3
 t27:=Tryz.underlying353
 a27:=Tryz.isAgg353
 z27:=Tryz.sizeOf353
 v27:=Tryz.zeroValue353
 t28:=Tryz.underlying354
 a28:=Tryz.isAgg354
 z28:=Tryz.sizeOf354
 v28:=Tryz.zeroValue354
 t33:=Tryz.underlying273
 a33:=Tryz.isAgg273
 z33:=Tryz.sizeOf273
 v33:=Tryz.zeroValue273 }
theorem sortsK (m:Nat):AnyZI.SortsIn Tryz.prog Tryz.sortedK_ren Fence.wide m :=
 ⟨fun blk off cap ss W hH hblk hsz=>callsIn_wide.2 (AnyM.slices_Sort_int Tryz.sortK blk off cap ss W hH hblk hsz),
  fun p cap W=>callsIn_wide.2 (AnyM.slices_Sort_int_none Tryz.sortK p cap W)⟩
theorem zc2 (mb:Option Nat) (W:World):Calls Tryz.prog 240 #[.map mb] W fun e w'=>e=.returned (.func (.func 274) #[] #[.pointer (some ⟨W.heap.size,0,none⟩)])∧w'=W.alloc (.cells #[.map mb] 350) :=
 (callsIn_wide (n:=5)).1 (AnyZI.keys_in Tryz.keys240 Fence.wide 5 trivial rfl mb W)
theorem za8 {H:Type} (b nn:Nat) (D0:DataW H) (R:Value→Option (DataW H × List MemPlace)) (w:World) (hown:w.ownsMap Tryz.prog 3 R b nn D0) (hmax:Maps.size D0≤maxLen) (hbytes:Maps.size D0*8≤140737488355328) :
 Calls Tryz.prog 239 #[.func (.func 274) #[] #[.pointer (some ⟨w.heap.size,0,none⟩)]] (w.alloc (.cells #[.map (some b)] 350)) fun e w'=>∃(v:Value) (ss:List Int),e=.returned v∧ss.Perm (intKeys D0) ∧
  w'.ownsRow (w.alloc (.cells #[.map (some b)] 350)).heap.size 3 1 v ss.length ((ss.mergeSort (fun x y=>decide (x≤y))).map encZ)∧(v=.slice none 0 0↔ss=[])∧Below (w.alloc (.cells #[.map (some b)] 350)).heap.size (w.alloc (.cells #[.map (some b)] 350)) w':=by
 have hbl:=hown.lt
 have hseq:SeqGives Fence.wide 2 Tryz.prog 274 #[.pointer (some ⟨w.heap.size,0,none⟩)] encZ (fun ss=>ss.Perm (intKeys D0)) (Maps.size D0) (w.alloc (.cells #[.map (some b)] 350)) :=
  AnyZI.keys_gives (ρ:=Tryz.keys240_ren) { Tryz.keys240 with } Fence.wide _ trivial rfl (by omega) w.heap.size b nn D0 _ (by simp) (by simp) (by
   obtain⟨es,clock,hb,Ft,hs,hD⟩:=hown
   exact⟨es,clock,(Below.heap_alloc _ _ b hbl).trans hb,Ft,hs,hD⟩)
 have cS:=AnyZI.sorted_in Tryz.sortedK Fence.wide 5 trivial trivial trivial trivial rfl (by omega) (sortsK _) (enters_of Tryz.func273 (by kernel_rfl) rfl) 274 #[.pointer (some ⟨w.heap.size,0,none⟩)] trivial (enters_of Tryz.func274 (by kernel_rfl) rfl) _ _ hmax hbytes _ hseq
 exact(callsIn_wide (n:=5)).1 cS
end Go.Proofs.YtpppegnojmnicaaGreatDoor
