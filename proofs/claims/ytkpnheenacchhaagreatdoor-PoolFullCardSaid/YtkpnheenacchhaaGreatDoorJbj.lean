/- key.digestsText. -/
import Derived.Test.YtkpnheenacchhaaGreatDoorJzz
import Derived.Laws.MakeOwn
import Derived.Test.YtkpnheenacchhaaGreatDoorJag
import Derived.Test.YtkpnheenacchhaaGreatDoorJat
import Derived.Test.YtkpnheenacchhaaGreatDoorJbc
import Derived.Test.YtkpnheenacchhaaGreatDoorJbg
import Derived.Test.YtkpnheenacchhaaGreatDoorJbh
import Derived.Test.YtkpnheenacchhaaGreatDoorJax
import Derived.Test.YtkpnheenacchhaaGreatDoorJaz
set_option maxHeartbeats 1000000
set_option maxRecDepth 100000
set_option linter.unusedSimpArgs false
set_option linter.unusedVariables false
namespace Go.Proofs.YtkpnheenacchhaaGreatDoor
open Go.RowKit
def hexB (n:Nat):ByteArray:=⟨(hexL n).toArray⟩
def digs (l:List Nat):List UInt8:=joinC (l.map hexL)
def U64n (n:Nat):Prop:=n<18446744073709551616
theorem x7 (n:Nat) (h:U64n n) (w:World) (hs:Std w):Calls Tryz.prog 85 #[.int .u64 (n:Nat)] w fun e w'=>e=.returned (.string (hexB n))∧Grew w w':=by
 have:=ji (n:Int) ⟨by omega,by unfold U64n at h;omega⟩ w
 rwa [Int.toNat_natCast]at this
theorem kQ (A:Option Addr) (c:Nat) (l:List Nat) (hl:l.length≤1048576) (hp:∀ x∈l,U64n x) (w:World) (hs:Std w) (hr:Rd w w.heap.size A (u64L l)) :
 Calls Tryz.prog 207 #[.slice A l.length c,.func (.func 85) #[] #[]] w fun e w'=>∃ v,e=.returned v∧w'.ownsRow w.heap.size 9 1 v l.length ((l.map hexB).map Value.string)∧Grew w w':=by
 obtain⟨i0,hi,hz0,hz1,hz2⟩:=info_parts (show(Tryz.prog.info? 9).map (fun i=>(i.zero,i.size,i.bytes))=some (some (.string ⟨#[]⟩),1,16) by kernel_rfl)
 have HPP:=hQ9 hp
 clear hp
 obtain⟨w1,hmk,hown1,hgrow1⟩:=run_make_own (P:=Tryz.prog) w w.heap.size 161 9 i0 (.string ⟨#[]⟩) 1 Tryz.underlying161 hi hz0 hz1 .i64 .i64 l.length (by rw [hz2];omega) (by unfold maxLen;omega) (Nat.le_refl _)
 have hg1:Grew w w1:=(Below.refl _ w).grown hgrow1 (Nat.le_refl _) (fun j hj=>by cases hj)
 clear hgrow1
 go_enter Tryz.func207,Tryz.ntmps207
 go_wp2_with fail
 clear hmk
 go_loopw [5,7,13] (fun rv xv iv wr=>∃ k:Nat,k≤l.length∧iv=.int .i64 k∧wr.ownsRow w.heap.size 9 1 rv k (((l.take k).map hexB).map Value.string)∧Grew w wr) (fun _ _ iv _=>l.length-(intOf iv).toNat)
 case atStart=>exact⟨0,Nat.zero_le _,rfl,by simpa using hown1,hg1⟩
 case round =>
  obtain⟨k,hk,rfl,hown,hg⟩:=hrel
  by_cases hlt:k<l.length
  ·obtain⟨ad,rfl,hbl,hc0⟩:=rd_u64 (hr.below hg) k hlt
   have hk0:(0:Int)≤(k:Int):=by omega
   have hk1:(k:Int)<(l.length:Int):=by omega
   have e1:IntKind.i64.wrap ((k:Int)+1)=((k+1:Nat):Int):=by rw [IntWalk.i64_in _ (by omega)];omega
   have HK:=hQ9 hlt
   have HT:Hid (((l.take (k+1)).map hexB).map Value.string=((l.take k).map hexB).map Value.string++[Value.string (hexB l[k])]):=hQ9 (by rw [List.take_succ_eq_append_getElem hlt,List.map_append,List.map_append];rfl)
   have hpx:=HPP.out l[k] (List.getElem_mem hlt)
   have cC:=x7 l[k] hpx wr (hs.grew hg)
   generalize l[k]=x at *
   have CC:=hQ9 cC
   have HPX:=hQ9 hpx
   clear cC hpx
   go_wp2_with(first
    | (go_at_call 85;refine(CC.out).mono ?_;rintro e w3 ⟨rfl,hg3⟩;have hown3:=zj (S:=fun _=>False) hown (zi hg3) (fun g _ h=>h);have hgg:=zb hg hg3;have hz3:=hgg.size)
    | (at_builtin;refine zd rfl (.tmp 17) (.tmp 21) 161 rfl w.heap.size 9 i0 (.string ⟨#[]⟩) 16 Tryz.underlying161 hi hz0 hz1 hz2 rfl _ k _ rfl (hown3.alloc _) (w3.heap.size+1) (some ⟨w3.heap.size,0,none⟩) 1 1 [Value.string (hexB x)] rfl rfl (zz w3 9 #[Value.string (hexB x)] (0,0)) (zJ rfl) (by unfold maxLen;omega) (by omega) (by simp;omega) ?_;intro v6 w6 hown6 hgrow6 _;have hg6:=zE hgg hgrow6 (zr hown3)))
   go_roundw
   case rel=>exact⟨k+1,by have:=HK.out;omega,by go_num,by rw [HT.out];exact hown6,hg6⟩
   case measure=>have h9:=HK.out;simp [intOf];omega
  ·obtain rfl:k=l.length:=by omega
   rw [List.take_length]at hown
   go_wp2_with fail
   go_ret
   exact⟨_,rfl,hown,hg⟩
theorem jG (n:Nat):(hexL n).length=16:=by simp [hexL]
theorem zZ (l:List Nat):(digs l).length≤l.length*17:=by
 have:=xd (l.map hexL) 16 (fun x hx=>by
  obtain⟨n,_,rfl⟩:=List.mem_map.1 hx
  rw [jG];omega)
 simpa [digs]using this
theorem xA (A:Option Addr) (c:Nat) (l:List Nat) (hl:l.length≤1048576) (hp:∀ x∈l,U64n x) (w:World) (hs:Std w) (hr:Rd w w.heap.size A (u64L l)) :
 Calls Tryz.prog 156 #[.slice A l.length c] w fun e w'=>e=.returned (.string ⟨(digs l).toArray⟩)∧Grew w w':=by
 have CM:=hQ9 (kQ A c l hl hp w hs hr)
 have hnl:=zZ l
 have hbe0:Lib.join ((l.map hexB).map (·.data.toList)) (⟨#[44]⟩:ByteArray).data.toList=digs l:=by
  have:(l.map hexB).map (·.data.toList)=l.map hexL:=by rw [List.map_map];apply List.map_congr_left;intro x _;simp [hexB]
  rw [this,show(⟨#[44]⟩:ByteArray).data.toList=[44] from rfl,yg];rfl
 have hbl:(Lib.join ((l.map hexB).map (·.data.toList)) (⟨#[44]⟩:ByteArray).data.toList).length≤140737488355328:=by rw [hbe0];omega
 have hbe:=hQ9 hbe0
 clear hbe0
 by_cases hz:l.length=0
 ·obtain rfl:l=[]:=List.length_eq_zero_iff.1 hz
  go_enter Tryz.func156,Tryz.ntmps156
  go_wp2_with(first
   | (go_at_call 207;refine(CM.out).mono ?_;rintro e w1 ⟨v,rfl,hrow,hg⟩;obtain⟨A1,c1,rfl,_,_,_⟩:=zG hrow)
   | (go_at_call 206;refine(Tryz.strings_Join_none A1 c1 _ _).mono ?_;rintro e w' ⟨rfl,hw⟩;have hw:=hw.symm;subst hw))
  go_ret
  exact⟨rfl,hg⟩
 ·go_enter Tryz.func156,Tryz.ntmps156
  go_wp2_with(first
   | (go_at_call 207;refine(CM.out).mono ?_;rintro e w1 ⟨v,rfl,hrow,hg⟩;obtain⟨g,c1,rfl,hcap,hgs,hcs⟩:=xe hrow (by omega))
   | (go_at_call 206;have cJ:=Tryz.strings_Join g 0 c1 (l.map hexB) ⟨#[44]⟩ w1 (fun j x hx=>hcs j (.string x) (by rw [List.getElem?_map,hx];rfl)) hgs (by rw [List.length_map];omega) (by rw [List.length_map];exact hcap) hbl;rw [List.length_map,hbe.out]at cJ;refine cJ.mono ?_;rintro e w2 ⟨rfl,hg2⟩))
  go_ret
  exact⟨rfl,zb hg hg2⟩
open Go.Shelf
attribute [local go_sem] Oper.semAt_some
def allD (l:List (List UInt8)):Prop:=∀ x∈l,parseO x≠none
instance (l:List (List UInt8)):Decidable (allD l):=by unfold allD;infer_instance
end Go.Proofs.YtkpnheenacchhaaGreatDoor
