/- maps.Keys at maps of ints, slices.Sorted of the keys, in plain words. -/
import Derived.Shelf.SlIterI.Nil
import Derived.Shelf.SortM.Plain
import Derived.Shelf.SortM.SortNone
import Derived.Ground.GgzProg
import Derived.Ground.SlgmProg
import Derived.Test.YtidjnnnigcmdpaaGreatDoorProg
set_option maxHeartbeats 1000000
set_option linter.unusedSimpArgs false
set_option linter.unusedVariables false
set_option linter.unnecessarySimpa false
namespace Go.Proofs.YtidjnnnigcmdpaaGreatDoor
open Go.Shelf Go.Lib Go.Sort Go.RowKit Go.Maps
def Tryz.sortedK_ren:Go.Shelf.Ren:=⟨fun | 6=>171 | 8=>220 | 9=>221 | 11=>253 | 13=>255 | 12=>254 | 23=>288 | 24=>270 | 14=>279 | 15=>280 | 16=>281 | 17=>282 | 18=>283 | 19=>284 | 20=>285 | 21=>286 | 22=>287 | 25=>303 | 26=>304 | 27=>305 | 28=>306 | 29=>307 | 30=>308 | 31=>316 | n=>n,fun | 26=>3 | 28=>282 | 24=>279 | 0=>0 | 3=>3 | 37=>95 | 48=>381 | 50=>25 | 4=>4 | 40=>388 | 39=>387 | 45=>393 | 5=>5 | 9=>9 | 51=>404 | 55=>408 | 57=>424 | 58=>425 | 33=>133 | n=>n,fun | n=>n⟩
theorem Tryz.sortedK:Go.Proofs.SlLaysZI.n6 Tryz.prog Tryz.sortedK_ren:={
 mixed:=by kernel_rfl
 f6:=⟨Tryz.f171.name,by decide,Tryz.func171.trans (congrArg some (by kernel_rfl))⟩
 f8:=⟨Tryz.f220.name,by decide,Tryz.func220.trans (congrArg some (by kernel_rfl))⟩
 f11:=⟨Tryz.f253.name,by decide,Tryz.func253.trans (congrArg some (by kernel_rfl))⟩
 t0:=Tryz.underlying0
 a0:=Tryz.isAgg0
 z0:=Tryz.sizeOf0
 v0:=Tryz.zeroValue0
 t24:=Tryz.underlying279
 a24:=Tryz.isAgg279
 z24:=Tryz.sizeOf279
 v24:=Tryz.zeroValue279
 t26:=Tryz.underlying3
 a26:=Tryz.isAgg3
 z26:=Tryz.sizeOf3
 v26:=Tryz.zeroValue3
 t28:=Tryz.underlying282
 a28:=Tryz.isAgg282
 z28:=Tryz.sizeOf282
 v28:=Tryz.zeroValue282
 i26:=by kernel_rfl }
def Tryz.sortK_ren:Go.Shelf.Ren:=⟨fun | 5=>221 | 8=>255 | 7=>254 | 19=>288 | 20=>270 | 10=>279 | 11=>280 | 12=>281 | 13=>282 | 14=>283 | 15=>284 | 16=>285 | 17=>286 | 18=>287 | 30=>303 | 31=>304 | 32=>305 | 33=>306 | 34=>307 | 35=>308 | 40=>316 | n=>n,fun | 23=>279 | 25=>3 | 3=>3 | 32=>95 | 22=>279 | 0=>0 | 44=>381 | 46=>25 | 4=>4 | 36=>388 | 35=>387 | 41=>393 | 5=>5 | 9=>9 | 53=>404 | 57=>408 | 63=>424 | 64=>425 | n=>n,fun | n=>n⟩
theorem Tryz.sortK:Go.Proofs.SlLaysM.n5 Tryz.prog Tryz.sortK_ren:={
 mixed:=by kernel_rfl
 f5:=⟨Tryz.f221.name,by decide,Tryz.func221.trans (congrArg some (by kernel_rfl))⟩
 f7:=⟨Tryz.f254.name,by decide,Tryz.func254.trans (congrArg some (by kernel_rfl))⟩
 f8:=Tryz.func255.trans (congrArg some (by kernel_rfl))
 f10:=⟨Tryz.f279.name,by decide,Tryz.func279.trans (congrArg some (by kernel_rfl))⟩
 f11:=⟨Tryz.f280.name,by decide,Tryz.func280.trans (congrArg some (by kernel_rfl))⟩
 f12:=⟨Tryz.f281.name,by decide,Tryz.func281.trans (congrArg some (by kernel_rfl))⟩
 f13:=⟨Tryz.f282.name,by decide,Tryz.func282.trans (congrArg some (by kernel_rfl))⟩
 f14:=⟨Tryz.f283.name,by decide,Tryz.func283.trans (congrArg some (by kernel_rfl))⟩
 f15:=⟨Tryz.f284.name,by decide,Tryz.func284.trans (congrArg some (by kernel_rfl))⟩
 f16:=⟨Tryz.f285.name,by decide,Tryz.func285.trans (congrArg some (by kernel_rfl))⟩
 f17:=⟨Tryz.f286.name,by decide,Tryz.func286.trans (congrArg some (by kernel_rfl))⟩
 f18:=⟨Tryz.f287.name,by decide,Tryz.func287.trans (congrArg some (by kernel_rfl))⟩
 f19:=Tryz.func288.trans (congrArg some (by kernel_rfl))
 f20:=Tryz.func270.trans (congrArg some (by kernel_rfl))
 f30:=⟨Tryz.f303.name,by decide,Tryz.func303.trans (congrArg some (by kernel_rfl))⟩
 f31:=Tryz.func304.trans (congrArg some (by kernel_rfl))
 f32:=Tryz.func305.trans (congrArg some (by kernel_rfl))
 f33:=⟨Tryz.f306.name,by decide,Tryz.func306.trans (congrArg some (by kernel_rfl))⟩
 f34:=⟨Tryz.f307.name,by decide,Tryz.func307.trans (congrArg some (by kernel_rfl))⟩
 f35:=⟨Tryz.f308.name,by decide,Tryz.func308.trans (congrArg some (by kernel_rfl))⟩
 f40:=⟨Tryz.f316.name,by decide,Tryz.func316.trans (congrArg some (by kernel_rfl))⟩
 t0:=Tryz.underlying0
 a0:=Tryz.isAgg0
 z0:=Tryz.sizeOf0
 v0:=Tryz.zeroValue0
 t3:=Tryz.underlying3
 a3:=Tryz.isAgg3
 z3:=Tryz.sizeOf3
 v3:=Tryz.zeroValue3
 t4:=Tryz.underlying4
 a4:=Tryz.isAgg4
 z4:=Tryz.sizeOf4
 v4:=Tryz.zeroValue4
 t5:=Tryz.underlying5
 a5:=Tryz.isAgg5
 z5:=Tryz.sizeOf5
 v5:=Tryz.zeroValue5
 t9:=Tryz.underlying9
 a9:=Tryz.isAgg9
 z9:=Tryz.sizeOf9
 v9:=Tryz.zeroValue9
 t22:=Tryz.underlying279
 a22:=Tryz.isAgg279
 z22:=Tryz.sizeOf279
 v22:=Tryz.zeroValue279
 t23:=Tryz.underlying279
 a23:=Tryz.isAgg279
 z23:=Tryz.sizeOf279
 v23:=Tryz.zeroValue279
 t25:=Tryz.underlying3
 a25:=Tryz.isAgg3
 z25:=Tryz.sizeOf3
 v25:=Tryz.zeroValue3
 t32:=Tryz.underlying95
 a32:=Tryz.isAgg95
 z32:=Tryz.sizeOf95
 v32:=Tryz.zeroValue95
 t35:=Tryz.underlying387
 a35:=Tryz.isAgg387
 z35:=Tryz.sizeOf387
 v35:=Tryz.zeroValue387
 t36:=Tryz.underlying388
 a36:=Tryz.isAgg388
 z36:=Tryz.sizeOf388
 v36:=Tryz.zeroValue388
 t41:=Tryz.underlying393
 a41:=Tryz.isAgg393
 z41:=Tryz.sizeOf393
 v41:=Tryz.zeroValue393
 t44:=Tryz.underlying381
 a44:=Tryz.isAgg381
 z44:=Tryz.sizeOf381
 v44:=Tryz.zeroValue381
 t46:=Tryz.underlying25
 a46:=Tryz.isAgg25
 z46:=Tryz.sizeOf25
 v46:=Tryz.zeroValue25
 t53:=Tryz.underlying404
 a53:=Tryz.isAgg404
 z53:=Tryz.sizeOf404
 v53:=Tryz.zeroValue404
 t57:=Tryz.underlying408
 a57:=Tryz.isAgg408
 z57:=Tryz.sizeOf408
 v57:=Tryz.zeroValue408
 t63:=Tryz.underlying424
 a63:=Tryz.isAgg424
 z63:=Tryz.sizeOf424
 v63:=Tryz.zeroValue424
 t64:=Tryz.underlying425
 a64:=Tryz.isAgg425
 z64:=Tryz.sizeOf425
 v64:=Tryz.zeroValue425 }
def Tryz.keys172_ren:Go.Shelf.Ren:=⟨fun | 7=>172 | 10=>222 | n=>n,fun | 23=>277 | 26=>3 | 3=>111 | 28=>282 | 0=>0 | 27=>281 | 33=>133 | 4=>4 | n=>n,fun | n=>n⟩
theorem Tryz.keys172:Go.Proofs.SlLaysZI.n7 Tryz.prog Tryz.keys172_ren:={
 mixed:=by kernel_rfl
 f7:=⟨Tryz.f172.name,by decide,Tryz.func172.trans (congrArg some (by kernel_rfl))⟩
 f10:=⟨Tryz.f222.name,by decide,Tryz.func222.trans (congrArg some (by kernel_rfl))⟩
 t0:=Tryz.underlying0
 a0:=Tryz.isAgg0
 z0:=Tryz.sizeOf0
 v0:=Tryz.zeroValue0
 t4:=Tryz.underlying4
 a4:=Tryz.isAgg4
 z4:=Tryz.sizeOf4
 v4:=Tryz.zeroValue4
 t23:=Tryz.underlying277
 a23:=Tryz.isAgg277
 z23:=Tryz.sizeOf277
 v23:=Tryz.zeroValue277
 t26:=Tryz.underlying3
 a26:=Tryz.isAgg3
 z26:=Tryz.sizeOf3
 v26:=Tryz.zeroValue3
 t27:=Tryz.underlying281
 a27:=Tryz.isAgg281
 z27:=Tryz.sizeOf281
 v27:=Tryz.zeroValue281
 t28:=Tryz.underlying282
 a28:=Tryz.isAgg282
 z28:=Tryz.sizeOf282
 v28:=Tryz.zeroValue282
 t33:=Tryz.underlying133
 a33:=Tryz.isAgg133
 z33:=Tryz.sizeOf133
 v33:=Tryz.zeroValue133 }
def Tryz.keys203_ren:Go.Shelf.Ren:=⟨fun | 7=>203 | 10=>250 | n=>n,fun | 23=>313 | 26=>3 | 3=>69 | 28=>282 | 0=>0 | 27=>281 | 33=>133 | 4=>4 | n=>n,fun | n=>n⟩
theorem Tryz.keys203:Go.Proofs.SlLaysZI.n7 Tryz.prog Tryz.keys203_ren:={
 mixed:=by kernel_rfl
 f7:=⟨Tryz.f203.name,by decide,Tryz.func203.trans (congrArg some (by kernel_rfl))⟩
 f10:=⟨Tryz.f250.name,by decide,Tryz.func250.trans (congrArg some (by kernel_rfl))⟩
 t0:=Tryz.underlying0
 a0:=Tryz.isAgg0
 z0:=Tryz.sizeOf0
 v0:=Tryz.zeroValue0
 t4:=Tryz.underlying4
 a4:=Tryz.isAgg4
 z4:=Tryz.sizeOf4
 v4:=Tryz.zeroValue4
 t23:=Tryz.underlying313
 a23:=Tryz.isAgg313
 z23:=Tryz.sizeOf313
 v23:=Tryz.zeroValue313
 t26:=Tryz.underlying3
 a26:=Tryz.isAgg3
 z26:=Tryz.sizeOf3
 v26:=Tryz.zeroValue3
 t27:=Tryz.underlying281
 a27:=Tryz.isAgg281
 z27:=Tryz.sizeOf281
 v27:=Tryz.zeroValue281
 t28:=Tryz.underlying282
 a28:=Tryz.isAgg282
 z28:=Tryz.sizeOf282
 v28:=Tryz.zeroValue282
 t33:=Tryz.underlying133
 a33:=Tryz.isAgg133
 z33:=Tryz.sizeOf133
 v33:=Tryz.zeroValue133 }
theorem zf6 (m:Nat):AnyZI.SortsIn Tryz.prog Tryz.sortedK_ren Fence.wide m :=
 ⟨fun blk off cap ss W hH hblk hsz=>callsIn_wide.2 (AnyM.slices_Sort_int Tryz.sortK blk off cap ss W hH hblk hsz),
  fun p cap W=>callsIn_wide.2 (AnyM.slices_Sort_int_none Tryz.sortK p cap W)⟩
theorem jV (mb:Option Nat) (W:World):Calls Tryz.prog 172 #[.map mb] W fun e w'=>e=.returned (.func (.func 222) #[] #[.pointer (some ⟨W.heap.size,0,none⟩)])∧w'=W.alloc (.cells #[.map mb] 277) :=
 (callsIn_wide (n:=5)).1 (AnyZI.keys_in Tryz.keys172 Fence.wide 5 trivial rfl mb W)
theorem kQ {H:Type} (b nn:Nat) (D0:DataW H) (R:Value→Option (DataW H × List MemPlace)) (w:World) (hown:w.ownsMap Tryz.prog 3 R b nn D0) (hmax:Maps.size D0≤maxLen) (hbytes:Maps.size D0*8≤140737488355328) :
 Calls Tryz.prog 171 #[.func (.func 222) #[] #[.pointer (some ⟨w.heap.size,0,none⟩)]] (w.alloc (.cells #[.map (some b)] 277)) fun e w'=>∃(v:Value) (ss:List Int),e=.returned v∧ss.Perm (intKeys D0) ∧
  w'.ownsRow (w.alloc (.cells #[.map (some b)] 277)).heap.size 3 1 v ss.length ((ss.mergeSort (fun x y=>decide (x≤y))).map encZ)∧(v=.slice none 0 0↔ss=[])∧Below (w.alloc (.cells #[.map (some b)] 277)).heap.size (w.alloc (.cells #[.map (some b)] 277)) w':=by
 have hbl:=hown.lt
 have hseq:SeqGives Fence.wide 2 Tryz.prog 222 #[.pointer (some ⟨w.heap.size,0,none⟩)] encZ (fun ss=>ss.Perm (intKeys D0)) (Maps.size D0) (w.alloc (.cells #[.map (some b)] 277)) :=
  AnyZI.keys_gives (ρ:=Tryz.keys172_ren) { Tryz.keys172 with } Fence.wide _ trivial rfl (by omega) w.heap.size b nn D0 _ (by simp) (by simp) (by
   obtain⟨es,clock,hb,Ft,hs,hD⟩:=hown
   exact⟨es,clock,(Below.heap_alloc _ _ b hbl).trans hb,Ft,hs,hD⟩)
 have cS:=AnyZI.sorted_in Tryz.sortedK Fence.wide 5 trivial trivial trivial trivial rfl (by omega) (zf6 _) (enters_of Tryz.func221 (by kernel_rfl) rfl) 222 #[.pointer (some ⟨w.heap.size,0,none⟩)] trivial (enters_of Tryz.func222 (by kernel_rfl) rfl) _ _ hmax hbytes _ hseq
 exact(callsIn_wide (n:=5)).1 cS
theorem zbf (mb:Option Nat) (W:World):Calls Tryz.prog 203 #[.map mb] W fun e w'=>e=.returned (.func (.func 250) #[] #[.pointer (some ⟨W.heap.size,0,none⟩)])∧w'=W.alloc (.cells #[.map mb] 313) :=
 (callsIn_wide (n:=5)).1 (AnyZI.keys_in Tryz.keys203 Fence.wide 5 trivial rfl mb W)
theorem qJ {H:Type} (b nn:Nat) (D0:DataW H) (R:Value→Option (DataW H × List MemPlace)) (w:World) (hown:w.ownsMap Tryz.prog 3 R b nn D0) (hmax:Maps.size D0≤maxLen) (hbytes:Maps.size D0*8≤140737488355328) :
 Calls Tryz.prog 171 #[.func (.func 250) #[] #[.pointer (some ⟨w.heap.size,0,none⟩)]] (w.alloc (.cells #[.map (some b)] 313)) fun e w'=>∃(v:Value) (ss:List Int),e=.returned v∧ss.Perm (intKeys D0) ∧
  w'.ownsRow (w.alloc (.cells #[.map (some b)] 313)).heap.size 3 1 v ss.length ((ss.mergeSort (fun x y=>decide (x≤y))).map encZ)∧(v=.slice none 0 0↔ss=[])∧Below (w.alloc (.cells #[.map (some b)] 313)).heap.size (w.alloc (.cells #[.map (some b)] 313)) w':=by
 have hbl:=hown.lt
 have hseq:SeqGives Fence.wide 2 Tryz.prog 250 #[.pointer (some ⟨w.heap.size,0,none⟩)] encZ (fun ss=>ss.Perm (intKeys D0)) (Maps.size D0) (w.alloc (.cells #[.map (some b)] 313)) :=
  AnyZI.keys_gives (ρ:=Tryz.keys203_ren) { Tryz.keys203 with } Fence.wide _ trivial rfl (by omega) w.heap.size b nn D0 _ (by simp) (by simp) (by
   obtain⟨es,clock,hb,Ft,hs,hD⟩:=hown
   exact⟨es,clock,(Below.heap_alloc _ _ b hbl).trans hb,Ft,hs,hD⟩)
 have cS:=AnyZI.sorted_in Tryz.sortedK Fence.wide 5 trivial trivial trivial trivial rfl (by omega) (zf6 _) (enters_of Tryz.func221 (by kernel_rfl) rfl) 250 #[.pointer (some ⟨w.heap.size,0,none⟩)] trivial (enters_of Tryz.func250 (by kernel_rfl) rfl) _ _ hmax hbytes _ hseq
 exact(callsIn_wide (n:=5)).1 cS
end Go.Proofs.YtidjnnnigcmdpaaGreatDoor
