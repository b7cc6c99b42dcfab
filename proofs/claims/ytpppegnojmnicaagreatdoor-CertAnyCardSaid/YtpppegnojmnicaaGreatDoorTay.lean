/- slices.Sort at []int64, in plain words. -/
import Derived.Shelf.SortM.Plain
import Derived.Shelf.SortM.SortNone
import Derived.Ground.SlgmProg
import Derived.Shelf.SlGeneric
import Derived.Test.YtpppegnojmnicaaGreatDoorProg
import Derived.Sort.OwnSorted
import Derived.Lib.SlKeysI
import Derived.Test.YtpppegnojmnicaaGreatDoorTap
set_option maxRecDepth 100000
set_option linter.unusedSimpArgs false
set_option linter.unusedVariables false
namespace Go.Proofs.YtpppegnojmnicaaGreatDoor
open Go.Shelf Go.Lib Go.Sort Go.RowKit
def Tryz.sortI6_ren:Go.Shelf.Ren:=⟨fun | 5=>232 | 8=>271 | 7=>270 | 19=>310 | 20=>311 | 10=>301 | 11=>302 | 12=>303 | 13=>304 | 14=>305 | 15=>306 | 16=>307 | 17=>308 | 18=>309 | 30=>333 | 31=>334 | 32=>335 | 33=>336 | 34=>337 | 35=>250 | 40=>354 | n=>n,fun | 23=>69 | 25=>2 | 3=>3 | 32=>76 | 22=>69 | 0=>0 | 44=>421 | 46=>55 | 4=>4 | 36=>414 | 35=>413 | 41=>304 | 5=>5 | 9=>9 | 53=>438 | 57=>442 | 63=>458 | 64=>459 | n=>n,fun | n=>n⟩
theorem Tryz.sortI6:Go.Proofs.SlLaysM.n5 Tryz.prog Tryz.sortI6_ren:={
 mixed:=by kernel_rfl
 f5:=⟨Tryz.f232.name,by decide,Tryz.func232.trans (congrArg some (by kernel_rfl))⟩
 f7:=⟨Tryz.f270.name,by decide,Tryz.func270.trans (congrArg some (by kernel_rfl))⟩
 f8:=Tryz.func271.trans (congrArg some (by kernel_rfl))
 f10:=⟨Tryz.f301.name,by decide,Tryz.func301.trans (congrArg some (by kernel_rfl))⟩
 f11:=⟨Tryz.f302.name,by decide,Tryz.func302.trans (congrArg some (by kernel_rfl))⟩
 f12:=⟨Tryz.f303.name,by decide,Tryz.func303.trans (congrArg some (by kernel_rfl))⟩
 f13:=⟨Tryz.f304.name,by decide,Tryz.func304.trans (congrArg some (by kernel_rfl))⟩
 f14:=⟨Tryz.f305.name,by decide,Tryz.func305.trans (congrArg some (by kernel_rfl))⟩
 f15:=⟨Tryz.f306.name,by decide,Tryz.func306.trans (congrArg some (by kernel_rfl))⟩
 f16:=⟨Tryz.f307.name,by decide,Tryz.func307.trans (congrArg some (by kernel_rfl))⟩
 f17:=⟨Tryz.f308.name,by decide,Tryz.func308.trans (congrArg some (by kernel_rfl))⟩
 f18:=⟨Tryz.f309.name,by decide,Tryz.func309.trans (congrArg some (by kernel_rfl))⟩
 f19:=Tryz.func310.trans (congrArg some (by kernel_rfl))
 f20:=Tryz.func311.trans (congrArg some (by kernel_rfl))
 f30:=⟨Tryz.f333.name,by decide,Tryz.func333.trans (congrArg some (by kernel_rfl))⟩
 f31:=Tryz.func334.trans (congrArg some (by kernel_rfl))
 f32:=Tryz.func335.trans (congrArg some (by kernel_rfl))
 f33:=⟨Tryz.f336.name,by decide,Tryz.func336.trans (congrArg some (by kernel_rfl))⟩
 f34:=⟨Tryz.f337.name,by decide,Tryz.func337.trans (congrArg some (by kernel_rfl))⟩
 f35:=⟨Tryz.f250.name,by decide,Tryz.func250.trans (congrArg some (by kernel_rfl))⟩
 f40:=⟨Tryz.f354.name,by decide,Tryz.func354.trans (congrArg some (by kernel_rfl))⟩
 t0:=Tryz.underlying0
 a0:=Tryz.isAgg0
 z0:=Tryz.sizeOf0
 v0:=Tryz.zeroValue0
 t3:=Tryz.underlying3
 a3:=Tryz.isAgg3
 z3:=Tryz.sizeOf3
 v3:=Tryz.zeroValue3
 t4:=Tryz.underlying4
 a4:=Tryz.isAgg4
 z4:=Tryz.sizeOf4
 v4:=Tryz.zeroValue4
 t5:=Tryz.underlying5
 a5:=Tryz.isAgg5
 z5:=Tryz.sizeOf5
 v5:=Tryz.zeroValue5
 t9:=Tryz.underlying9
 a9:=Tryz.isAgg9
 z9:=Tryz.sizeOf9
 v9:=Tryz.zeroValue9
 t22:=Tryz.underlying69
 a22:=Tryz.isAgg69
 z22:=Tryz.sizeOf69
 v22:=Tryz.zeroValue69
 t23:=Tryz.underlying69
 a23:=Tryz.isAgg69
 z23:=Tryz.sizeOf69
 v23:=Tryz.zeroValue69
 t25:=Tryz.underlying2
 a25:=Tryz.isAgg2
 z25:=Tryz.sizeOf2
 v25:=Tryz.zeroValue2
 t32:=Tryz.underlying76
 a32:=Tryz.isAgg76
 z32:=Tryz.sizeOf76
 v32:=Tryz.zeroValue76
 t35:=Tryz.underlying413
 a35:=Tryz.isAgg413
 z35:=Tryz.sizeOf413
 v35:=Tryz.zeroValue413
 t36:=Tryz.underlying414
 a36:=Tryz.isAgg414
 z36:=Tryz.sizeOf414
 v36:=Tryz.zeroValue414
 t41:=Tryz.underlying304
 a41:=Tryz.isAgg304
 z41:=Tryz.sizeOf304
 v41:=Tryz.zeroValue304
 t44:=Tryz.underlying421
 a44:=Tryz.isAgg421
 z44:=Tryz.sizeOf421
 v44:=Tryz.zeroValue421
 t46:=Tryz.underlying55
 a46:=Tryz.isAgg55
 z46:=Tryz.sizeOf55
 v46:=Tryz.zeroValue55
 t53:=Tryz.underlying438
 a53:=Tryz.isAgg438
 z53:=Tryz.sizeOf438
 v53:=Tryz.zeroValue438
 t57:=Tryz.underlying442
 a57:=Tryz.isAgg442
 z57:=Tryz.sizeOf442
 v57:=Tryz.zeroValue442
 t63:=Tryz.underlying458
 a63:=Tryz.isAgg458
 z63:=Tryz.sizeOf458
 v63:=Tryz.zeroValue458
 t64:=Tryz.underlying459
 a64:=Tryz.isAgg459
 z64:=Tryz.sizeOf459
 v64:=Tryz.zeroValue459 }
theorem zme (blk off cap:Nat) (zs:List Int) (w:World) (hH:Holds (Value.int .i64) w blk off zs.toArray) (hblk:blk<w.heap.size) (hsz:zs.length<4611686018427387904) :
 Calls Tryz.prog 232 #[.slice (some ⟨blk,off,none⟩) zs.length cap] w fun e w' =>
  e=.returned (.tuple #[])∧∃ n os,w'=grow (putRow (Value.int .i64) (Sort.ahead w n) blk off (zs.mergeSort fun x y=>decide (x≤y)).toArray) os:=AnyM.slices_Sort_int Tryz.sortI6 blk off cap zs w hH hblk hsz
theorem zc3 (p:Option Addr) (cap:Nat) (w:World) :
 Calls Tryz.prog 232 #[.slice p 0 cap] w fun e w'=>e=.returned (.tuple #[])∧w'=w:=AnyM.slices_Sort_int_none Tryz.sortI6 p cap w
def sortI (l:List Int):List Int:=l.mergeSort fun x y=>decide (x≤y)
theorem qM (l:List Int):(sortI l).length=l.length:=by simp [sortI]
theorem zez (Bs n₀:Nat) (A:Option Addr) (cap:Nat) (zs:List Int) (hz:zs.length≤1048576) (w:World) (hBs:Bs<w.heap.size) (hn₀:n₀≤w.heap.size)
 (hc:w.cell? ⟨Bs,0,none⟩=some (.slice A zs.length cap)) (hr:Rd w n₀ A (i64L zs)) :
 Calls Tryz.prog 269 #[.slice none 0 0,.func (.func 233) #[] #[.pointer (some ⟨Bs,0,none⟩)]] w fun e W'=>∃ v,e=.returned v∧W'.ownsRow w.heap.size 2 1 v zs.length (zs.map (Value.int .i64))∧(v=.slice none 0 0↔zs=[])∧Below w.heap.size w W' :=
 callsIn_wide.1 (zey Fence.wide 6 trivial trivial rfl (by omega) Bs n₀ A cap zs hz w hBs hn₀ hc hr)
theorem zb9 (A:Option Addr) (len cap:Nat) (w:World) :
 Calls Tryz.prog 178 #[.slice A len cap] w fun e w'=>e=.returned (.func (.func 233) #[] #[.pointer (some ⟨w.heap.size,0,none⟩)])∧w'=w.alloc (.cells #[.slice A len cap] 69) :=
 callsIn_wide.1 (zjq Fence.wide 6 trivial rfl A len cap w)
theorem zhp (Bs n₀:Nat) (A:Option Addr) (cap:Nat) (zs:List Int) (hz:zs.length≤1048576) (w:World) (hBs:Bs<w.heap.size) (hn₀:n₀≤w.heap.size)
 (hc:w.cell? ⟨Bs,0,none⟩=some (.slice A zs.length cap)) (hr:Rd w n₀ A (i64L zs)) :
 Calls Tryz.prog 231 #[.func (.func 233) #[] #[.pointer (some ⟨Bs,0,none⟩)]] w fun e W'=>∃ v,e=.returned v∧W'.ownsRow w.heap.size 2 1 v zs.length (zs.map (Value.int .i64))∧(v=.slice none 0 0↔zs=[])∧Below w.heap.size w W':=by
 go_enter Tryz.func231,Tryz.ntmps231
 go_wp2_with(go_at_call 269;refine(zez Bs n₀ A cap zs hz _ hBs hn₀ hc hr).mono ?_;rintro e W ⟨v,rfl,hrow,hnil,hb⟩)
 go_ret
 exact⟨v,rfl,hrow,hnil,hb⟩
theorem zca (Bs n₀:Nat) (A:Option Addr) (cap:Nat) (zs:List Int) (hz:zs.length≤1048576) (w:World) (hBs:Bs<w.heap.size) (hn₀:n₀≤w.heap.size)
 (hc:w.cell? ⟨Bs,0,none⟩=some (.slice A zs.length cap)) (hr:Rd w n₀ A (i64L zs)) :
 Calls Tryz.prog 177 #[.func (.func 233) #[] #[.pointer (some ⟨Bs,0,none⟩)]] w fun e W'=>∃ v,e=.returned v∧W'.ownsRow w.heap.size 2 1 v zs.length ((sortI zs).map (Value.int .i64))∧(v=.slice none 0 0↔zs=[])∧Below w.heap.size w W':=by
 go_enter Tryz.func177,Tryz.ntmps177
 go_wp2_with(go_at_call 231;refine(zhp Bs n₀ A cap zs hz _ hBs hn₀ hc hr).mono ?_;rintro e W ⟨v,rfl,hrow,hnil,hb⟩)
 rcases hrow.2 with ⟨rfl,hz0⟩ | ⟨gb,cap,cur,rfl,hbase,hgb,r1,r2,r3,r4⟩
 ·have hss:zs=[]:=List.eq_nil_of_length_eq_zero hz0
  subst hss
  go_wp2_with(go_at_call 232;refine(zc3 none 0 W).mono ?_;rintro e w' ⟨rfl,rfl⟩)
  go_ret
  exact⟨.slice none 0 0,rfl,by simpa [sortI]using hrow,by simp,hb⟩
 ·have hH:Holds (Value.int .i64) W gb 0 zs.toArray:=holds_of_block_i hgb (by simpa using r4)
  have hgl:gb<W.heap.size:=(Array.getElem?_eq_some_iff.1 hgb).1
  have cS:=zme gb 0 cap zs W hH hgl (by omega)
  go_wp2_with(go_at_call 232;refine cS.mono ?_;rintro e w' ⟨rfl,nn,os,rfl⟩)
  go_ret
  exact⟨_,rfl,ownsRow_sorted_i (by simp) hbase hgb r1 r2 r3,hnil,hb.grown (grownBy_sorted_i _) hb.size (fun j hj=>by cases hj;exact hbase)⟩
theorem xy {w:World} {base base':Nat} {e:TypeId} {size:Nat} {v:Value} {n:Nat} {xs:List Value} (h:w.ownsRow base e size v n xs) (hb:base'≤base):w.ownsRow base' e size v n xs:=by
 refine⟨h.1,?_⟩
 rcases h.2 with hn | ⟨g,cap,cur,hv,hbg,rest⟩
 ·exact .inl hn
 ·exact .inr ⟨g,cap,cur,hv,Nat.le_trans hb hbg,rest⟩
end Go.Proofs.YtpppegnojmnicaaGreatDoor
