/- key.digestsText. -/
import Derived.Test.YtkpnheenacchhaaGreatDoorPzz
import Derived.Laws.MakeOwn
import Derived.Test.YtkpnheenacchhaaGreatDoorPag
import Derived.Test.YtkpnheenacchhaaGreatDoorPao
import Derived.Test.YtkpnheenacchhaaGreatDoorPbc
import Derived.Test.YtkpnheenacchhaaGreatDoorPau
import Derived.Test.YtkpnheenacchhaaGreatDoorPaw
import Derived.Test.YtkpnheenacchhaaGreatDoorPas
import Derived.Test.YtkpnheenacchhaaGreatDoorPav
set_option maxHeartbeats 2000000
set_option maxRecDepth 100000
set_option linter.unusedSimpArgs false
set_option linter.unusedVariables false
namespace Go.Proofs.YtkpnheenacchhaaGreatDoor
open Go.RowKit
def hexB (n:Nat):ByteArray:=⟨(hexL n).toArray⟩
def digs (l:List Nat):List UInt8:=joinC (l.map hexL)
def U64n (n:Nat):Prop:=n<18446744073709551616
theorem je (n:Nat) (h:U64n n) (w:World) (hs:Std w):Calls Tryz.prog 85 #[.int .u64 (n:Nat)] w fun e w'=>e=.returned (.string (hexB n))∧Grew w w':=by
 have:=zl4 (n:Int) ⟨by omega,by unfold U64n at h;omega⟩ w
 rwa [Int.toNat_natCast]at this
theorem zkf (A:Option Addr) (c:Nat) (l:List Nat) (hl:l.length≤1048576) (hp:∀ x∈l,U64n x) (w:World) (hs:Std w) (hr:Rd w w.heap.size A (u64L l)) :
 Calls Tryz.prog 207 #[.slice A l.length c,.func (.func 85) #[] #[]] w fun e w'=>∃ v,e=.returned v∧w'.ownsRow w.heap.size 9 1 v l.length ((l.map hexB).map Value.string)∧Grew w w':=by
 obtain⟨i0,hi,hz0,hz1,hz2⟩:=info_parts (show(Tryz.prog.info? 9).map (fun i=>(i.zero,i.size,i.bytes))=some (some (.string ⟨#[]⟩),1,16) by kernel_rfl)
 have HPP:=hQ9 hp
 clear hp
 obtain⟨w1,hmk,hown1,hgrow1⟩:=run_make_own (P:=Tryz.prog) w w.heap.size 161 9 i0 (.string ⟨#[]⟩) 1 Tryz.underlying161 hi hz0 hz1 .i64 .i64 l.length (by rw [hz2];omega) (by unfold maxLen;omega) (zN9 _)
 have hg1:Grew w w1:=(Below.refl _ w).grown hgrow1 (zN9 _) (fun j hj=>by cases hj)
 clear hgrow1
 go_enter Tryz.func207,Tryz.ntmps207
 go_wp2_with fail
 clear hmk
 go_loopw [5,7,13] (fun rv xv iv wr=>∃ k:Nat,k≤l.length∧iv=.int .i64 k∧wr.ownsRow w.heap.size 9 1 rv k (((l.take k).map hexB).map Value.string)∧Grew w wr) (fun _ _ iv _=>l.length-(intOf iv).toNat)
 case atStart=>exact⟨0,Nat.zero_le _,rfl,by simpa using hown1,hg1⟩
 case round =>
  obtain⟨k,hk,rfl,hown,hg⟩:=hrel
  by_cases hlt:k<l.length
  ·obtain⟨ad,rfl,hbl,hc0⟩:=yv (hr.below hg) k hlt
   have hk0:(0:Int)≤(k:Int):=by omega
   have hk1:(k:Int)<(l.length:Int):=by omega
   have e1:IntKind.i64.wrap ((k:Int)+1)=((k+1:Nat):Int):=by rw [IntWalk.i64_in _ (by omega)];omega
   have HK:=hQ9 hlt
   have HT:Hid (((l.take (k+1)).map hexB).map Value.string=((l.take k).map hexB).map Value.string++[Value.string (hexB l[k])]):=hQ9 (by rw [List.take_succ_eq_append_getElem hlt,List.map_append,List.map_append];rfl)
   have hpx:=HPP.out l[k] (List.getElem_mem hlt)
   have cC:=je l[k] hpx wr (hs.grew hg)
   generalize l[k]=x at *
   have CC:=hQ9 cC
   have HPX:=hQ9 hpx
   clear cC hpx
   go_wp2_with(first
    | (go_at_call 85;refine(CC.out).mono ?_;rintro e w3 ⟨rfl,hg3⟩;have hown3:=zo (S:=fun _=>False) hown (zF hg3) (fun g _ h=>h);have hgg:=zb hg hg3;have hz3:=hgg.size)
    | (at_builtin;refine zx rfl (.tmp 17) (.tmp 21) 161 rfl w.heap.size 9 i0 (.string ⟨#[]⟩) 16 Tryz.underlying161 hi hz0 hz1 hz2 rfl _ k _ rfl (hown3.alloc _) (w3.heap.size+1) (some ⟨w3.heap.size,0,none⟩) 1 1 [Value.string (hexB x)] rfl rfl (yb w3 9 #[Value.string (hexB x)] (0,0)) (yG rfl) (by unfold maxLen;omega) (by omega) (by simp;omega) ?_;intro v6 w6 hown6 hgrow6 _;have hg6:=yi hgg hgrow6 (zu hown3)))
   go_roundw
   case rel=>exact⟨k+1,by have:=HK.out;omega,by go_num,by rw [HT.out];exact hown6,hg6⟩
   case measure=>have h9:=HK.out;simp [intOf];omega
  ·obtain rfl:k=l.length:=by omega
   rw [List.take_length]at hown
   go_wp2_with fail
   go_ret
   exact⟨_,rfl,hown,hg⟩
theorem zej (n:Nat):(hexL n).length=16:=by simp [hexL]
theorem xc (l:List Nat):(digs l).length≤l.length*17:=by
 have:=zck (l.map hexL) 16 (fun x hx=>by
  obtain⟨n,_,rfl⟩:=List.mem_map.1 hx
  rw [zej];omega)
 simpa [digs]using this
theorem zek (A:Option Addr) (c:Nat) (l:List Nat) (hl:l.length≤1048576) (hp:∀ x∈l,U64n x) (w:World) (hs:Std w) (hr:Rd w w.heap.size A (u64L l)) :
 Calls Tryz.prog 156 #[.slice A l.length c] w fun e w'=>e=.returned (.string ⟨(digs l).toArray⟩)∧Grew w w':=by
 have CM:=hQ9 (zkf A c l hl hp w hs hr)
 have hnl:=xc l
 have hbe0:Lib.join ((l.map hexB).map (·.data.toList)) (⟨#[44]⟩:ByteArray).data.toList=digs l:=by
  have:(l.map hexB).map (·.data.toList)=l.map hexL:=by rw [List.map_map];apply List.map_congr_left;intro x _;simp [hexB]
  rw [this,show(⟨#[44]⟩:ByteArray).data.toList=[44] from rfl,jq];rfl
 have hbl:(Lib.join ((l.map hexB).map (·.data.toList)) (⟨#[44]⟩:ByteArray).data.toList).length≤140737488355328:=by rw [hbe0];omega
 have hbe:=hQ9 hbe0
 clear hbe0
 by_cases hz:l.length=0
 ·obtain rfl:l=[]:=List.length_eq_zero_iff.1 hz
  go_enter Tryz.func156,Tryz.ntmps156
  go_wp2_with(first
   | (go_at_call 207;refine(CM.out).mono ?_;rintro e w1 ⟨v,rfl,hrow,hg⟩;obtain⟨A1,c1,rfl,_,_,_⟩:=zU hrow)
   | (go_at_call 206;refine(Tryz.strings_Join_none A1 c1 _ _).mono ?_;rintro e w' ⟨rfl,hw⟩;have hw:=hw.symm;subst hw))
  go_ret
  exact⟨rfl,hg⟩
 ·go_enter Tryz.func156,Tryz.ntmps156
  go_wp2_with(first
   | (go_at_call 207;refine(CM.out).mono ?_;rintro e w1 ⟨v,rfl,hrow,hg⟩;obtain⟨g,c1,rfl,hcap,hgs,hcs⟩:=xy hrow (by omega))
   | (go_at_call 206;have cJ:=Tryz.strings_Join g 0 c1 (l.map hexB) ⟨#[44]⟩ w1 (fun j x hx=>hcs j (.string x) (by rw [List.getElem?_map,hx];rfl)) hgs (by rw [List.length_map];omega) (by rw [List.length_map];exact hcap) hbl;rw [List.length_map,hbe.out]at cJ;refine cJ.mono ?_;rintro e w2 ⟨rfl,hg2⟩))
  go_ret
  exact⟨rfl,zb hg hg2⟩
open Go.Shelf
attribute [local go_sem] Oper.semAt_some
def valsD (l:List (List UInt8)):List Nat:=l.map fun x=>(parseO x).getD 0
theorem zij (l:List (List UInt8)) (x:List UInt8):valsD (l++[x])=valsD l++[(parseO x).getD 0]:=by simp [valsD]
def allD (l:List (List UInt8)):Prop:=∀ x∈l,parseO x≠none
instance (l:List (List UInt8)):Decidable (allD l):=by unfold allD;infer_instance
def pdigs (s:List UInt8):Option (List Nat):=if s=[] then some [] else if allD (splitC s) then some (valsD (splitC s)) else none
theorem zkg {s:List UInt8} (h:s≠[]) (x:List UInt8) (hx:x∈splitC s) (h2:parseO x=none):pdigs s=none:=by
 unfold pdigs
 rw [if_neg h,if_neg (fun ha=>ha x hx h2)]
theorem za7 {s:List UInt8} (h:s≠[]) (ha:allD (splitC s)):pdigs s=some (valsD (splitC s)):=by
 unfold pdigs
 rw [if_neg h,if_pos ha]
def pdW (w:World) (s:ByteArray):World :=
 ((((((w.alloc (Obj.cells #[Value.slice none 0 0] 75)).alloc (Obj.cells #[Value.bool false] 4)).alloc (Obj.cells #[Value.slice none 0 0] 75)).alloc (Obj.cells #[Value.string s] 9)).alloc (Obj.cells #[Value.string { data:=#[44] }] 9)).alloc (Obj.cells #[Value.int IntKind.i64 0] 3))
theorem znf (w:World) (s:ByteArray):(pdW w s).heap.size=w.heap.size+6:=by simp [pdW]
theorem zel (w:World) (s:ByteArray):Grew w (pdW w s):=by
 unfold pdW
 exact ze (ze (ze (ze (ze (ze (za w) _) _) _) _) _) _
theorem pdW_0 (w:World) (s:ByteArray):Boxed (pdW w s) w.heap.size 75 (.slice none 0 0) :=
 (((((Boxed.new w _ _).alloc _).alloc _).alloc _).alloc _).alloc _
theorem pdW_1 (w:World) (s:ByteArray):Boxed (pdW w s) (w.heap.size+1) 4 (.bool false):=by
 have h:=Boxed.new (w.alloc (Obj.cells #[Value.slice none 0 0] 75)) 4 (.bool false)
 rw [World.size_alloc]at h
 exact(((h.alloc _).alloc _).alloc _).alloc _
theorem pdW_2 (w:World) (s:ByteArray):Boxed (pdW w s) (w.heap.size+1+1) 75 (.slice none 0 0):=by
 have h:=Boxed.new ((w.alloc (Obj.cells #[Value.slice none 0 0] 75)).alloc (Obj.cells #[Value.bool false] 4)) 75 (.slice none 0 0)
 rw [World.size_alloc,World.size_alloc]at h
 exact((h.alloc _).alloc _).alloc _
theorem pdW_sp (w:World) (s:ByteArray) (hS:Std w):SpSt (w.heap.size+1+1+1) (pdW w s) s:=by
 obtain⟨W3,h3⟩:∃ W3,(((w.alloc (Obj.cells #[Value.slice none 0 0] 75)).alloc (Obj.cells #[Value.bool false] 4)).alloc (Obj.cells #[Value.slice none 0 0] 75))=W3:=⟨_,rfl⟩
 have hz:W3.heap.size=w.heap.size+1+1+1:=by rw [←h3];simp
 have h1:=Boxed.new W3 9 (.string s)
 have h2:=Boxed.new (W3.alloc (Obj.cells #[Value.string s] 9)) 9 (.string ⟨#[44]⟩)
 have h4:=Boxed.new ((W3.alloc (Obj.cells #[Value.string s] 9)).alloc (Obj.cells #[Value.string { data:=#[44] }] 9)) 3 (.int .i64 0)
 simp only [World.size_alloc,hz]at h1 h2 h4
 have hm:=(hS.grew (zel w s)).mx
 unfold pdW at hm ⊢
 rw [h3]at hm ⊢
 exact⟨(h1.alloc _).alloc _,(h2.alloc _).cell,h4.cell,hm⟩
theorem zik (s:ByteArray) (hs:s.size≤1048576) (hp:0<s.size) (w:World) (hS:Std w) (hg8:5<w.heap.size) :
 Calls Tryz.prog 153 #[.string s] w fun e w'=>(∃ v,e=.returned (.tuple #[v,.bool (pdigs s.data.toList).isSome])∧w'.ownsRow w.heap.size 72 1 v ((pdigs s.data.toList).getD []).length (u64L ((pdigs s.data.toList).getD [])))∧Grew w w':=by
 obtain⟨i0,hi,hz0,hz1,hz2⟩:=info_parts infoD
 have hie:=zbm hp
 have hie2:=zd5 hp
 have hne:Hid (s.data.toList≠[]):=hQ9 (fun e=>by have:=xY s;rw [e]at this;simp at this;omega)
 refine(callsIn_wide (n:=9)).1 ?_
 refine callsIn_of_wp_marks Tryz.func153 rfl trivial ?_ rfl
 simp only [Tryz.ntmps153,List.size_toArray,List.length_cons,List.length_nil,Nat.reduceAdd,Nat.reduceSub,Array.replicate_succ,Array.replicate_zero,List.push_toArray,List.append_toArray,List.nil_append,List.cons_append]
 gi_wp2_with (refine⟨trivial,?_⟩;gi_at_call 204;refine(callsIn_wide.2 (zft _ _ _)).mono ?_;rintro e w' ⟨rfl,rfl⟩)
 change Code.wpIn Fence.wide 9 Tryz.prog _ _ _ (pdW w s)
 clear hie hie2
 have hsz:=znf w s
 have hgr:=zel w s
 have h0:=pdW_0 w s
 have h1:=pdW_1 w s
 have h2:=pdW_2 w s
 have h4:=pdW_sp w s hS
 generalize pdW w s=W0 at *
 refine zd2 (T:=w.heap.size+1+1+1) (Kp:=spK (w.heap.size+1+1+1)) (S:=fun xs=>txs xs=splitC s.data.toList) (Sp:=fun pre=>txs pre <+: splitC s.data.toList) (N:=s.size+1) (by omega) (gf:=284) (lb:=#[.pointer (some ⟨w.heap.size+1+1+1+1,0,none⟩),.pointer (some ⟨w.heap.size+1+1+1,0,none⟩),.pointer (some ⟨w.heap.size+1+1+1+2,0,none⟩)]) rfl (enters_of Tryz.func284 (by kernel_rfl) rfl)
  (zj5 8 (by omega) (w.heap.size+1+1+1) (by omega) s (by omega) W0 h4 (by omega)) (by omega) spK_t (fun W l o' hl j hj=>World.putObj_heap_other (by omega)) rfl
  (fun pre W=>(Boxed W w.heap.size 75 (.slice none 0 0)∧Boxed W (w.heap.size+1) 4 (.bool false)∧(∃ v,Boxed W (w.heap.size+1+1) 75 v∧W.ownsRow W0.heap.size 72 1 v pre.length (u64L (valsD (txs pre)))∧True))∧(allD (txs pre)∧W0.heap.size≤W.heap.size)∧Below w.heap.size w W)
  (fun pre W=>(Boxed W w.heap.size 75 (.slice none 0 0)∧Boxed W (w.heap.size+1) 4 (.bool false))∧(∃ x∈txs pre,parseO x=none)∧Below w.heap.size w W)
  (OwnFrom.and (OwnFrom.and (Own.from (boxed_own _ _ _) _) (OwnFrom.and (Own.from (boxed_own _ _ _) _) (Own.from (holdsRow_own _ _ _ _ _ (fun pre:List Txt=>pre.length) (fun pre=>u64L (valsD (txs pre))) (fun _ _=>True)) _))) (OwnFrom.and (OwnFrom.and (ownFrom_pure _ _) (zmz _ _)) (ownFrom_below (zN9 _) (by omega))))
  (OwnFrom.and (OwnFrom.and (Own.from (boxed_own _ _ _) _) (Own.from (boxed_own _ _ _) _)) (OwnFrom.and (ownFrom_pure _ _) (ownFrom_below (zN9 _) (by omega))))
  ?sI ?sIx ?start (fun x=>{ tmps:=#[.string s,undef,.pointer (some ⟨w.heap.size,0,none⟩),.pointer (some ⟨w.heap.size+1,0,none⟩),.pointer (some ⟨w.heap.size+1+1,0,none⟩),.string x.1,undef,undef,.string s,.bool false,.string s,.func (.func 284) #[] #[.pointer (some ⟨w.heap.size+1+1+1+1,0,none⟩),.pointer (some ⟨w.heap.size+1+1+1,0,none⟩),.pointer (some ⟨w.heap.size+1+1+1+2,0,none⟩)],.string x.1,undef,undef,undef,undef,undef,undef,undef,undef,undef,undef,undef,undef],defers:=[] }) ?assign ?body ?done ?stop
 case sI =>
  rintro pre A u ⟨⟨a0,a1,v,a3,a4,_⟩,⟨a5,a6⟩,a7⟩
  exact⟨⟨a0.other (by omega) u,a1.other (by omega) u,v,a3.other (by omega) u,zo a4 (yH (S:=fun j=>j=w.heap.size+1+1+1) (zQ _ A) (p:=⟨w.heap.size+1+1+1,0,none⟩) (.inl rfl) u) (fun g hg hj=>by have:=(zN a4 g hg).1;omega),trivial⟩,⟨a5,by simpa [World.setCell]using a6⟩,a7.setCell (p:=⟨w.heap.size+1+1+1,0,none⟩) (by simp only;omega) u⟩
 case sIx =>
  rintro pre A u ⟨⟨a0,a1⟩,a5,a7⟩
  exact⟨⟨a0.other (by omega) u,a1.other (by omega) u⟩,a5,a7.setCell (p:=⟨w.heap.size+1+1+1,0,none⟩) (by simp only;omega) u⟩
 case start =>
  exact⟨⟨h0,h1,_,h2,World.ownsRow_nil _ _ _ _,trivial⟩,⟨fun x hx=>absurd hx (by simp [txs]),zN9 _⟩,hgr⟩
 case assign =>
  intro l x W K hK
  gi_wp2
  exact hK
 case body =>
  rintro l pre x W ⟨⟨a0,a1,v,a3,a4,_⟩,⟨a5,a6⟩,a7⟩ hlen
  have cP:=zcd x.1 W
  have hN:Hid (txs (pre++[x])=txs pre++[x.1.data.toList]):=hQ9 (kD pre x)
  have h12:1≤9-1-1:=by omega
  have hWb:w.heap.size+1+1+1+2<W.heap.size:=by omega
  have hWg:5<W.heap.size:=by omega
  have hc3:=a3.cell
  have hf3:=a3.frozen
  have hc0:=a0.cell
  have hf0:=a0.frozen
  have hc1:=a1.cell
  have hf1:=a1.frozen
  cases he:parseO x.1.data.toList with
  | some z =>
   rw [he]at cP
   unfold parseRes at cP
   have HV:Hid (valsD (txs (pre++[x]))=valsD (txs pre)++[z]):=hQ9 (by rw [hN.out,zij,he];rfl)
   have HF:Hid (allD (txs (pre++[x]))):=hQ9 (by
    rw [hN.out]
    intro y hy
    rcases List.mem_append.1 hy with hy | hy
    ·exact a5 y hy
    ·obtain rfl:y=x.1.data.toList:=by simpa using hy
     rw [he];exact fun h=>by cases h)
   have CP:=hQ9 cP
   clear cP he
   gi_wp2_with (first
    | (refine⟨trivial,?_⟩;gi_at_call 82;refine(CallsIn.inRound l (callsIn_wide.2 CP.out)).mono ?_;rintro e w3 ⟨rfl,hw⟩;subst hw)
    | (gi_at_builtin;refine wpListIn_append_own _ rfl _ _ 75 rfl W0.heap.size 72 i0 (.int .u64 0) 1 8 Tryz.underlying75 hi hz0 hz1 hz2 rfl (by decide) _ _ _ rfl (a4.alloc _) ⟨W.heap.size,0,none⟩ 1 1 [.int .u64 (z:Nat)] rfl rfl (cell_one_new _ _ _) (by simp [Value.oneCell']) (by unfold maxLen;omega) (by omega) (by simp;omega) ?_;intro v' w4 hown' hgrow _;obtain⟨g',cap',rfl⟩:=ownsRow_succ hown';obtain⟨d1,d2,d3,d4,d5⟩:=zos (by omega) a3 a4 (by omega) hown' hgrow;have hc4:=d1.cell;have hf4:=d1.frozen))
   exact⟨d4.from _,spK_kp d5 hWb hWg (fun j hj hh=>by omega),⟨⟨zd7 a0 d5 (by omega),zd7 a1 d5 (by omega),_,d2,by rw [HV.out,List.length_append];simpa [u64L]using d3,trivial⟩,⟨HF.out,by have:=d5.size;omega⟩,zV a7 d5 (by omega) (fun i hi=>by omega)⟩⟩
  | none =>
   rw [he]at cP
   unfold parseRes at cP
   have CP:=hQ9 cP
   clear cP
   gi_wp2_with (first
    | (refine⟨trivial,?_⟩;gi_at_call 82;refine(CallsIn.inRound l (callsIn_wide.2 CP.out)).mono ?_;rintro e w3 ⟨rfl,hw⟩;subst hw))
   have hK3:Kp (fun j=>j=w.heap.size∨j=w.heap.size+1) W ((W.setCell ⟨w.heap.size,0,none⟩ (.slice none 0 0)).setCell ⟨w.heap.size+1,0,none⟩ (.bool false)):=yH (S:=fun j=>j=w.heap.size∨j=w.heap.size+1) (yH (S:=fun j=>j=w.heap.size∨j=w.heap.size+1) (zQ _ W) (p:=⟨w.heap.size,0,none⟩) (.inl (.inl rfl)) _) (p:=⟨w.heap.size+1,0,none⟩) (.inl (.inr rfl)) _
   exact⟨((KeepsOthers.setCell _ _ _).trans (KeepsOthers.setCell _ _ _)).from _,rfl,⟨(a0.set _).other (by omega) _,(a1.other (by omega) _).set _⟩,⟨x.1.data.toList,by rw [hN.out];simp,he⟩,zV a7 hK3 (by omega) (fun i hi=>by omega)⟩
 case done =>
  rintro D ys W hD hS2 ⟨⟨a0,a1,v,a3,a4,_⟩,⟨a5,a6⟩,a7⟩ hK
  rw [hS2]at a4 a5
  have hpn:=za7 hne.out a5
  have hyl:ys.length=(valsD (splitC s.data.toList)).length:=by
   have:=congrArg List.length hS2
   simpa [txs,valsD]using this
  rw [hyl]at a4
  have hc3:=a3.cell
  have hf3:=a3.frozen
  have hc1:=a1.cell
  have hf1:=a1.frozen
  have hc0:=a0.cell
  have hf0:=a0.frozen
  have HPN:=hQ9 hpn
  clear hpn hS2
  obtain⟨Av,cv,rfl,_,_,_⟩:=zU a4
  gi_wp2
  have hK':=((KeepsOthers.setCell W ⟨w.heap.size,0,none⟩ (.slice Av (valsD (splitC s.data.toList)).length cv)).trans (KeepsOthers.setCell _ ⟨w.heap.size+1,0,none⟩ (.bool true))).same D _ hK rfl
  have e0:=((a0.set (.slice Av (valsD (splitC s.data.toList)).length cv)).other (B':=w.heap.size+1) (by omega) (.bool true)).kept (grownBy_putObj' _ D (.deferred none)) (fun e=>by injection e with e;omega)
  have e1:=((a1.other (B':=w.heap.size) (by omega) (.slice Av (valsD (splitC s.data.toList)).length cv)).set (.bool true)).kept (grownBy_putObj' _ D (.deferred none)) (fun e=>by injection e with e;omega)
  have hKp:Kp (fun j=>j=w.heap.size∨j=w.heap.size+1) W ((W.setCell ⟨w.heap.size,0,none⟩ (.slice Av (valsD (splitC s.data.toList)).length cv)).setCell ⟨w.heap.size+1,0,none⟩ (.bool true)):=yH (S:=fun j=>j=w.heap.size∨j=w.heap.size+1) (yH (S:=fun j=>j=w.heap.size∨j=w.heap.size+1) (zQ _ W) (p:=⟨w.heap.size,0,none⟩) (.inl (.inl rfl)) _) (p:=⟨w.heap.size+1,0,none⟩) (.inl (.inr rfl)) _
  have hrow:=ownsRow_putObj (zo a4 hKp (fun g hg hj=>by have:=(zN a4 g hg).1;omega)) (.deferred none) hK' rfl
  have hbl:=zV a7 hKp (by omega) (fun i hi=>by omega)
  refine⟨by simp,.inl ⟨_,_,rfl,run_takeDeferred hK',?_⟩⟩
  have hce0:=e0.cell
  have hce1:=e1.cell
  refine⟨.tuple #[.slice Av (valsD (splitC s.data.toList)).length cv,.bool true],?_,⟨_,by rw [HPN.out];rfl,by rw [HPN.out];exact jY hrow (by omega)⟩,hbl.trans (belowK_b (w:=w) (zN9 _) _ D _ _ (by omega) hK' rfl rfl)⟩
  simp [results,Tryz.f153,go_sem,hce0,hce1]
 case stop =>
  rintro D pre W hD hpre ⟨⟨a0,a1⟩,⟨x,hx,h2⟩,a7⟩ hK
  have hpn:=zkg hne.out x (hpre.subset hx) h2
  have HPN:=hQ9 hpn
  clear hpn
  gi_wp2
  refine⟨by simp,.inl ⟨_,_,rfl,run_takeDeferred hK,?_⟩⟩
  have e0:=a0.kept (grownBy_putObj' _ D (.deferred none)) (fun e=>by injection e with e;omega)
  have e1:=a1.kept (grownBy_putObj' _ D (.deferred none)) (fun e=>by injection e with e;omega)
  have hce0:=e0.cell
  have hce1:=e1.cell
  refine⟨.tuple #[.slice none 0 0,.bool false],?_,⟨_,by rw [HPN.out];rfl,by rw [HPN.out];exact World.ownsRow_nil _ _ _ _⟩,a7.trans (belowK_b (w:=w) (zN9 _) _ D _ _ (by omega) hK rfl rfl)⟩
  simp [results,Tryz.f153,go_sem,hce0,hce1]
theorem js (s:ByteArray) (hs:s.size≤1048576) (w:World) (hS:Std w) :
 Calls Tryz.prog 153 #[.string s] w fun e w'=>(∃ v,e=.returned (.tuple #[v,.bool (pdigs s.data.toList).isSome])∧w'.ownsRow w.heap.size 72 1 v ((pdigs s.data.toList).getD []).length (u64L ((pdigs s.data.toList).getD [])))∧Grew w w':=by
 by_cases hz:s.size=0
 ·obtain rfl:=zd4 hz
  go_enter Tryz.func153,Tryz.ntmps153
  go_wp2_with fail
  have hp:pdigs (⟨#[]⟩:ByteArray).data.toList=some []:=if_pos rfl
  rw [hp]
  have e0:Boxed ((w.alloc (Obj.cells #[Value.slice none 0 0] 75)).alloc (Obj.cells #[Value.bool true] 4)) w.heap.size 75 (.slice none 0 0):=(Boxed.new w _ _).alloc _
  have e1:=Boxed.new (w.alloc (Obj.cells #[Value.slice none 0 0] 75)) 4 (.bool true)
  rw [World.size_alloc]at e1
  have hc0:=e0.cell
  have hc1:=e1.cell
  exact bodyPost_ret (v:=.tuple #[.slice none 0 0,.bool true]) (by simp [results,Tryz.f153,go_sem,hc0,hc1]) rfl ⟨⟨_,rfl,World.ownsRow_nil _ _ _ _⟩,ze (ze (za w) _) _⟩
 ·exact zik s hs (by omega) w hS (by obtain⟨m,hm⟩:=hS.mx;exact qu hm)
end Go.Proofs.YtkpnheenacchhaaGreatDoor
