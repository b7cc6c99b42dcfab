/- maps.Keys at maps of ints, slices.Sorted of the keys, in plain words. -/
import Derived.Shelf.SlIterI.Nil
import Derived.Shelf.SortM.Plain
import Derived.Shelf.SortM.SortNone
import Derived.Ground.GgzProg
import Derived.Ground.SlgmProg
import Derived.Test.YtkpnheenacchhaaGreatDoorProg
set_option maxHeartbeats 1000000
set_option linter.unusedSimpArgs false
set_option linter.unusedVariables false
namespace Go.Proofs.YtkpnheenacchhaaGreatDoor
open Go.Shelf Go.Lib Go.Sort Go.RowKit Go.Maps
def Tryz.sortedK_ren:Go.Shelf.Ren:=⟨fun | 6=>218 | 8=>262 | 9=>263 | 11=>295 | 13=>276 | 12=>296 | 23=>309 | 24=>288 | 14=>316 | 15=>317 | 16=>318 | 17=>319 | 18=>320 | 19=>321 | 20=>322 | 21=>323 | 22=>324 | 25=>334 | 26=>326 | 27=>327 | 28=>335 | 29=>336 | 30=>337 | 31=>341 | n=>n,fun | 26=>3 | 28=>329 | 24=>297 | 0=>0 | 3=>3 | 37=>210 | 48=>397 | 50=>65 | 4=>4 | 40=>407 | 39=>406 | 45=>226 | 5=>5 | 9=>9 | 51=>423 | 55=>427 | 57=>438 | 58=>439 | 33=>322 | n=>n,fun | n=>n⟩
theorem Tryz.sortedK:Go.Proofs.SlLaysZI.n6 Tryz.prog Tryz.sortedK_ren:={
 mixed:=by kernel_rfl
 f6:=⟨Tryz.f218.name,by decide,Tryz.func218.trans (congrArg some (by kernel_rfl))⟩
 f8:=⟨Tryz.f262.name,by decide,Tryz.func262.trans (congrArg some (by kernel_rfl))⟩
 f11:=⟨Tryz.f295.name,by decide,Tryz.func295.trans (congrArg some (by kernel_rfl))⟩
 t0:=Tryz.underlying0
 a0:=Tryz.isAgg0
 z0:=Tryz.sizeOf0
 v0:=Tryz.zeroValue0
 t24:=Tryz.underlying297
 a24:=Tryz.isAgg297
 z24:=Tryz.sizeOf297
 v24:=Tryz.zeroValue297
 t26:=Tryz.underlying3
 a26:=Tryz.isAgg3
 z26:=Tryz.sizeOf3
 v26:=Tryz.zeroValue3
 t28:=Tryz.underlying329
 a28:=Tryz.isAgg329
 z28:=Tryz.sizeOf329
 v28:=Tryz.zeroValue329
 i26:=by kernel_rfl }
def Tryz.sortK_ren:Go.Shelf.Ren:=⟨fun | 5=>263 | 8=>276 | 7=>296 | 19=>309 | 20=>288 | 10=>316 | 11=>317 | 12=>318 | 13=>319 | 14=>320 | 15=>321 | 16=>322 | 17=>323 | 18=>324 | 30=>334 | 31=>326 | 32=>327 | 33=>335 | 34=>336 | 35=>337 | 40=>341 | n=>n,fun | 23=>297 | 25=>3 | 3=>3 | 32=>210 | 22=>297 | 0=>0 | 44=>397 | 46=>65 | 4=>4 | 36=>407 | 35=>406 | 41=>226 | 5=>5 | 9=>9 | 53=>423 | 57=>427 | 63=>438 | 64=>439 | n=>n,fun | n=>n⟩
theorem Tryz.sortK:Go.Proofs.SlLaysM.n5 Tryz.prog Tryz.sortK_ren:={
 mixed:=by kernel_rfl
 f5:=⟨Tryz.f263.name,by decide,Tryz.func263.trans (congrArg some (by kernel_rfl))⟩
 f7:=⟨Tryz.f296.name,by decide,Tryz.func296.trans (congrArg some (by kernel_rfl))⟩
 f8:=Tryz.func276.trans (congrArg some (by kernel_rfl))
 f10:=⟨Tryz.f316.name,by decide,Tryz.func316.trans (congrArg some (by kernel_rfl))⟩
 f11:=⟨Tryz.f317.name,by decide,Tryz.func317.trans (congrArg some (by kernel_rfl))⟩
 f12:=⟨Tryz.f318.name,by decide,Tryz.func318.trans (congrArg some (by kernel_rfl))⟩
 f13:=⟨Tryz.f319.name,by decide,Tryz.func319.trans (congrArg some (by kernel_rfl))⟩
 f14:=⟨Tryz.f320.name,by decide,Tryz.func320.trans (congrArg some (by kernel_rfl))⟩
 f15:=⟨Tryz.f321.name,by decide,Tryz.func321.trans (congrArg some (by kernel_rfl))⟩
 f16:=⟨Tryz.f322.name,by decide,Tryz.func322.trans (congrArg some (by kernel_rfl))⟩
 f17:=⟨Tryz.f323.name,by decide,Tryz.func323.trans (congrArg some (by kernel_rfl))⟩
 f18:=⟨Tryz.f324.name,by decide,Tryz.func324.trans (congrArg some (by kernel_rfl))⟩
 f19:=Tryz.func309.trans (congrArg some (by kernel_rfl))
 f20:=Tryz.func288.trans (congrArg some (by kernel_rfl))
 f30:=⟨Tryz.f334.name,by decide,Tryz.func334.trans (congrArg some (by kernel_rfl))⟩
 f31:=Tryz.func326.trans (congrArg some (by kernel_rfl))
 f32:=Tryz.func327.trans (congrArg some (by kernel_rfl))
 f33:=⟨Tryz.f335.name,by decide,Tryz.func335.trans (congrArg some (by kernel_rfl))⟩
 f34:=⟨Tryz.f336.name,by decide,Tryz.func336.trans (congrArg some (by kernel_rfl))⟩
 f35:=⟨Tryz.f337.name,by decide,Tryz.func337.trans (congrArg some (by kernel_rfl))⟩
 f40:=⟨Tryz.f341.name,by decide,Tryz.func341.trans (congrArg some (by kernel_rfl))⟩
 t0:=Tryz.underlying0
 a0:=Tryz.isAgg0
 z0:=Tryz.sizeOf0
 v0:=Tryz.zeroValue0
 t3:=Tryz.underlying3
 a3:=Tryz.isAgg3
 z3:=Tryz.sizeOf3
 v3:=Tryz.zeroValue3
 t4:=Tryz.underlying4
 a4:=Tryz.isAgg4
 z4:=Tryz.sizeOf4
 v4:=Tryz.zeroValue4
 t5:=Tryz.underlying5
 a5:=Tryz.isAgg5
 z5:=Tryz.sizeOf5
 v5:=Tryz.zeroValue5
 t9:=Tryz.underlying9
 a9:=Tryz.isAgg9
 z9:=Tryz.sizeOf9
 v9:=Tryz.zeroValue9
 t22:=Tryz.underlying297
 a22:=Tryz.isAgg297
 z22:=Tryz.sizeOf297
 v22:=Tryz.zeroValue297
 t23:=Tryz.underlying297
 a23:=Tryz.isAgg297
 z23:=Tryz.sizeOf297
 v23:=Tryz.zeroValue297
 t25:=Tryz.underlying3
 a25:=Tryz.isAgg3
 z25:=Tryz.sizeOf3
 v25:=Tryz.zeroValue3
 t32:=Tryz.underlying210
 a32:=Tryz.isAgg210
 z32:=Tryz.sizeOf210
 v32:=Tryz.zeroValue210
 t35:=Tryz.underlying406
 a35:=Tryz.isAgg406
 z35:=Tryz.sizeOf406
 v35:=Tryz.zeroValue406
 t36:=Tryz.underlying407
 a36:=Tryz.isAgg407
 z36:=Tryz.sizeOf407
 v36:=Tryz.zeroValue407
 t41:=Tryz.underlying226
 a41:=Tryz.isAgg226
 z41:=Tryz.sizeOf226
 v41:=Tryz.zeroValue226
 t44:=Tryz.underlying397
 a44:=Tryz.isAgg397
 z44:=Tryz.sizeOf397
 v44:=Tryz.zeroValue397
 t46:=Tryz.underlying65
 a46:=Tryz.isAgg65
 z46:=Tryz.sizeOf65
 v46:=Tryz.zeroValue65
 t53:=Tryz.underlying423
 a53:=Tryz.isAgg423
 z53:=Tryz.sizeOf423
 v53:=Tryz.zeroValue423
 t57:=Tryz.underlying427
 a57:=Tryz.isAgg427
 z57:=Tryz.sizeOf427
 v57:=Tryz.zeroValue427
 t63:=Tryz.underlying438
 a63:=Tryz.isAgg438
 z63:=Tryz.sizeOf438
 v63:=Tryz.zeroValue438
 t64:=Tryz.underlying439
 a64:=Tryz.isAgg439
 z64:=Tryz.sizeOf439
 v64:=Tryz.zeroValue439 }
def Tryz.keys219_ren:Go.Shelf.Ren:=⟨fun | 7=>219 | 10=>264 | n=>n,fun | 23=>325 | 26=>3 | 3=>79 | 28=>329 | 0=>0 | 27=>328 | 33=>322 | 4=>4 | n=>n,fun | n=>n⟩
theorem Tryz.keys219:Go.Proofs.SlLaysZI.n7 Tryz.prog Tryz.keys219_ren:={
 mixed:=by kernel_rfl
 f7:=⟨Tryz.f219.name,by decide,Tryz.func219.trans (congrArg some (by kernel_rfl))⟩
 f10:=⟨Tryz.f264.name,by decide,Tryz.func264.trans (congrArg some (by kernel_rfl))⟩
 t0:=Tryz.underlying0
 a0:=Tryz.isAgg0
 z0:=Tryz.sizeOf0
 v0:=Tryz.zeroValue0
 t4:=Tryz.underlying4
 a4:=Tryz.isAgg4
 z4:=Tryz.sizeOf4
 v4:=Tryz.zeroValue4
 t23:=Tryz.underlying325
 a23:=Tryz.isAgg325
 z23:=Tryz.sizeOf325
 v23:=Tryz.zeroValue325
 t26:=Tryz.underlying3
 a26:=Tryz.isAgg3
 z26:=Tryz.sizeOf3
 v26:=Tryz.zeroValue3
 t27:=Tryz.underlying328
 a27:=Tryz.isAgg328
 z27:=Tryz.sizeOf328
 v27:=Tryz.zeroValue328
 t28:=Tryz.underlying329
 a28:=Tryz.isAgg329
 z28:=Tryz.sizeOf329
 v28:=Tryz.zeroValue329
 t33:=Tryz.underlying322
 a33:=Tryz.isAgg322
 z33:=Tryz.sizeOf322
 v33:=Tryz.zeroValue322 }
def Tryz.keys272_ren:Go.Shelf.Ren:=⟨fun | 7=>272 | 10=>299 | n=>n,fun | 23=>379 | 26=>3 | 3=>157 | 28=>329 | 0=>0 | 27=>328 | 33=>322 | 4=>4 | n=>n,fun | n=>n⟩
theorem Tryz.keys272:Go.Proofs.SlLaysZI.n7 Tryz.prog Tryz.keys272_ren:={
 mixed:=by kernel_rfl
 f7:=⟨Tryz.f272.name,by decide,Tryz.func272.trans (congrArg some (by kernel_rfl))⟩
 f10:=⟨Tryz.f299.name,by decide,Tryz.func299.trans (congrArg some (by kernel_rfl))⟩
 t0:=Tryz.underlying0
 a0:=Tryz.isAgg0
 z0:=Tryz.sizeOf0
 v0:=Tryz.zeroValue0
 t4:=Tryz.underlying4
 a4:=Tryz.isAgg4
 z4:=Tryz.sizeOf4
 v4:=Tryz.zeroValue4
 t23:=Tryz.underlying379
 a23:=Tryz.isAgg379
 z23:=Tryz.sizeOf379
 v23:=Tryz.zeroValue379
 t26:=Tryz.underlying3
 a26:=Tryz.isAgg3
 z26:=Tryz.sizeOf3
 v26:=Tryz.zeroValue3
 t27:=Tryz.underlying328
 a27:=Tryz.isAgg328
 z27:=Tryz.sizeOf328
 v27:=Tryz.zeroValue328
 t28:=Tryz.underlying329
 a28:=Tryz.isAgg329
 z28:=Tryz.sizeOf329
 v28:=Tryz.zeroValue329
 t33:=Tryz.underlying322
 a33:=Tryz.isAgg322
 z33:=Tryz.sizeOf322
 v33:=Tryz.zeroValue322 }
theorem zj6 (m:Nat):AnyZI.SortsIn Tryz.prog Tryz.sortedK_ren Fence.wide m :=
 ⟨fun blk off cap ss W hH hblk hsz=>callsIn_wide.2 (AnyM.slices_Sort_int Tryz.sortK blk off cap ss W hH hblk hsz),
  fun p cap W=>callsIn_wide.2 (AnyM.slices_Sort_int_none Tryz.sortK p cap W)⟩
theorem zd8 (mb:Option Nat) (W:World):Calls Tryz.prog 219 #[.map mb] W fun e w'=>e=.returned (.func (.func 264) #[] #[.pointer (some ⟨W.heap.size,0,none⟩)])∧w'=W.alloc (.cells #[.map mb] 325) :=
 (callsIn_wide (n:=5)).1 (AnyZI.keys_in Tryz.keys219 Fence.wide 5 trivial rfl mb W)
theorem zbn {H:Type} (b nn:Nat) (D0:DataW H) (R:Value→Option (DataW H × List MemPlace)) (w:World) (hown:w.ownsMap Tryz.prog 3 R b nn D0) (hmax:Maps.size D0≤maxLen) (hbytes:Maps.size D0*8≤140737488355328) :
 Calls Tryz.prog 218 #[.func (.func 264) #[] #[.pointer (some ⟨w.heap.size,0,none⟩)]] (w.alloc (.cells #[.map (some b)] 325)) fun e w'=>∃(v:Value) (ss:List Int),e=.returned v∧ss.Perm (intKeys D0) ∧
  w'.ownsRow (w.alloc (.cells #[.map (some b)] 325)).heap.size 3 1 v ss.length ((ss.mergeSort (fun x y=>decide (x≤y))).map encZ)∧(v=.slice none 0 0↔ss=[])∧Below (w.alloc (.cells #[.map (some b)] 325)).heap.size (w.alloc (.cells #[.map (some b)] 325)) w':=by
 have hbl:=hown.lt
 have hseq:SeqGives Fence.wide 2 Tryz.prog 264 #[.pointer (some ⟨w.heap.size,0,none⟩)] encZ (fun ss=>ss.Perm (intKeys D0)) (Maps.size D0) (w.alloc (.cells #[.map (some b)] 325)) :=
  AnyZI.keys_gives (ρ:=Tryz.keys219_ren) { Tryz.keys219 with } Fence.wide _ trivial rfl (by omega) w.heap.size b nn D0 _ (by simp) (by simp) (by
   obtain⟨es,clock,hb,Ft,hs,hD⟩:=hown
   exact⟨es,clock,(Below.heap_alloc _ _ b hbl).trans hb,Ft,hs,hD⟩)
 have cS:=AnyZI.sorted_in Tryz.sortedK Fence.wide 5 trivial trivial trivial trivial rfl (by omega) (zj6 _) (enters_of Tryz.func263 (by kernel_rfl) rfl) 264 #[.pointer (some ⟨w.heap.size,0,none⟩)] trivial (enters_of Tryz.func264 (by kernel_rfl) rfl) _ _ hmax hbytes _ hseq
 exact(callsIn_wide (n:=5)).1 cS
theorem zbo (mb:Option Nat) (W:World):Calls Tryz.prog 272 #[.map mb] W fun e w'=>e=.returned (.func (.func 299) #[] #[.pointer (some ⟨W.heap.size,0,none⟩)])∧w'=W.alloc (.cells #[.map mb] 379) :=
 (callsIn_wide (n:=5)).1 (AnyZI.keys_in Tryz.keys272 Fence.wide 5 trivial rfl mb W)
theorem zae {H:Type} (b nn:Nat) (D0:DataW H) (R:Value→Option (DataW H × List MemPlace)) (w:World) (hown:w.ownsMap Tryz.prog 3 R b nn D0) (hmax:Maps.size D0≤maxLen) (hbytes:Maps.size D0*8≤140737488355328) :
 Calls Tryz.prog 218 #[.func (.func 299) #[] #[.pointer (some ⟨w.heap.size,0,none⟩)]] (w.alloc (.cells #[.map (some b)] 379)) fun e w'=>∃(v:Value) (ss:List Int),e=.returned v∧ss.Perm (intKeys D0) ∧
  w'.ownsRow (w.alloc (.cells #[.map (some b)] 379)).heap.size 3 1 v ss.length ((ss.mergeSort (fun x y=>decide (x≤y))).map encZ)∧(v=.slice none 0 0↔ss=[])∧Below (w.alloc (.cells #[.map (some b)] 379)).heap.size (w.alloc (.cells #[.map (some b)] 379)) w':=by
 have hbl:=hown.lt
 have hseq:SeqGives Fence.wide 2 Tryz.prog 299 #[.pointer (some ⟨w.heap.size,0,none⟩)] encZ (fun ss=>ss.Perm (intKeys D0)) (Maps.size D0) (w.alloc (.cells #[.map (some b)] 379)) :=
  AnyZI.keys_gives (ρ:=Tryz.keys272_ren) { Tryz.keys272 with } Fence.wide _ trivial rfl (by omega) w.heap.size b nn D0 _ (by simp) (by simp) (by
   obtain⟨es,clock,hb,Ft,hs,hD⟩:=hown
   exact⟨es,clock,(Below.heap_alloc _ _ b hbl).trans hb,Ft,hs,hD⟩)
 have cS:=AnyZI.sorted_in Tryz.sortedK Fence.wide 5 trivial trivial trivial trivial rfl (by omega) (zj6 _) (enters_of Tryz.func263 (by kernel_rfl) rfl) 299 #[.pointer (some ⟨w.heap.size,0,none⟩)] trivial (enters_of Tryz.func299 (by kernel_rfl) rfl) _ _ hmax hbytes _ hseq
 exact(callsIn_wide (n:=5)).1 cS
end Go.Proofs.YtkpnheenacchhaaGreatDoor
