/- What is called for each stamp: median.who, Make's fits, Valid's check, At's time. -/
import Derived.Test.YtkpnheenacchhaaGreatDoorPzz
import Derived.Test.YtkpnheenacchhaaGreatDoorPab
import Derived.Test.YtkpnheenacchhaaGreatDoorPbh
import Derived.Test.YtkpnheenacchhaaGreatDoorPbl
import Derived.Test.YtkpnheenacchhaaGreatDoorPbd
import Derived.Test.YtkpnheenacchhaaGreatDoorPbm
import Derived.WalkArith
import Derived.IntWalk
import Derived.Test.YtkpnheenacchhaaGreatDoorPbk
set_option maxHeartbeats 1000000
set_option maxRecDepth 100000
set_option linter.unusedSimpArgs false
set_option linter.unusedVariables false
namespace Go.Proofs.YtkpnheenacchhaaGreatDoor
open Go.RowKit
structure KP where
 f:Int
 R:List Nat
 RA:Option Addr
 Rc:Nat
 h:Int
def KP.C (K:KP):Array Value:=kyS K.f K.RA K.R.length K.Rc K.h
structure KP.ok (K:KP):Prop where
 f:1≤K.f∧K.f≤3
 len:K.R.length≤1000
 b:∀ x∈K.R,x<18446744073709551616
def KP.at (K:KP) (w:World):Prop:=Rd w w.heap.size K.RA (u64L K.R)
theorem KP.at.gr {K:KP} {w w':World} (h:K.at w) (g:Grew w w'):K.at w':=Rd.gr h g
noncomputable def vaS (K:KP) (S:SP):Int:=vaE K.f K.R K.h S.cm S.who S.at_ S.sw S.lf S.s S.l
theorem zbd {K:KP} {S:SP} (hK:K.ok) (hS:S.ok) (w:World) (hs:Std w) (hk:K.at w) (ha:S.at w) :
 Calls Tryz.prog 168 #[.agg K.C,.agg S.C] w fun e w'=>e=.returned (.int .i64 (vaS K S))∧Grew w w' :=
 ziq K.f hK.f K.R K.RA K.Rc K.h S.cm S.who S.at_ S.sw S.lf S.s S.A S.c S.l hS.cm hS.who hS.at_ hS.sw hS.lf hS.len hS.s hS.l hK.len hK.b w hs hk ha
theorem zey (S:SP) (w:World):Calls Tryz.prog 166 #[.agg S.C] w fun e w'=>e=.returned (.int .i64 S.who)∧Grew w w':=by
 have zs:=Ag.new w 157 S.C
 have G:=ze (za w) (.cells S.C 157)
 have hc:(w.alloc (.cells S.C 157)).cell? ⟨w.heap.size,1,none⟩=some (.int .i64 S.who):=by simpa using zs.cell 1 _ rfl
 clear zs
 generalize S.C=g at *
 generalize S.who=x at *
 go_enter Tryz.func166,Tryz.ntmps166
 go_wp2_with fail
 go_ret
 exact⟨rfl,G⟩
noncomputable def fitB (K:KP) (d:Nat) (S:SP):Bool:=decide (S.cm=d)&&decide (vaS K S=0)
theorem mk1_sp {K:KP} {S:SP} (hK:K.ok) (hS:S.ok) (d bd bk:Nat) (w:World) (hs:Std w) (hk:K.at w) (ha:S.at w) (hd:w.cell? ⟨bd,0,none⟩=some (.int .u64 (d:Nat))) (hkc:Ag w bk K.C.toList) :
 Calls Tryz.prog 183 #[.agg S.C,.pointer (some ⟨bd,0,none⟩),.pointer (some ⟨bk,0,none⟩)] w fun e w'=>e=.returned (.bool (fitB K d S))∧Grew w w':=by
 have zs:=Ag.new w 157 S.C
 have G:=ze (za w) (.cells S.C 157)
 have hc:(w.alloc (.cells S.C 157)).cell? ⟨w.heap.size,0,none⟩=some (.int .u64 (S.cm:Nat)):=by simpa using zs.cell 0 _ rfl
 have hd':(w.alloc (.cells S.C 157)).cell? ⟨bd,0,none⟩=some (.int .u64 (d:Nat)):=by
  rw [←hd]
  refine World.cell?_of_block (Below.heap_alloc _ _ _ ?_)
  rcases Nat.lt_or_ge bd w.heap.size with h | h
  ·exact h
  ·have:w.heap[bd]?=none:=Array.getElem?_eq_none h
   simp only [World.cell?,this]at hd
   cases hd
 have hut:=Tryz.underlying157
 have huk:=Tryz.underlying91
 have SIS:Hid (zI9 157=some S.C.toList.length):=hQ9 zK
 have SIK:Hid (zI9 91=some K.C.toList.length):=hQ9 (show _=some 3 by kernel_rfl)
 have hms:=zs.cell
 have hmk:=(hkc.grew G).cell
 have CV:=hQ9 (fun W h1 h2 h3=>zbd hK hS W h1 h2 h3)
 have HS:=hQ9 hs
 have HKA:=hQ9 hk
 have HSA:=hQ9 ha
 have HF:Hid (fitB K d S=(decide (S.cm=d)&&decide (vaS K S=0))):=hQ9 rfl
 clear zs hd hkc hs hk ha hK hS
 generalize S.C=g at *
 generalize K.C=gk at *
 generalize vaS K S=va at *
 by_cases hcd:S.cm=d
 ·have e1:((S.cm:Int)==(d:Int))=true:=by simp [hcd]
  have HCD:=hQ9 hcd
  clear hcd
  generalize S.cm=cm at *
  go_enter Tryz.func183,Tryz.ntmps183
  go_wp2_with(first
   | (refine zj (by rfl) 91 (.tmp 2) rfl bk 0 rfl gk.toList _ hmk huk rfl SIK.out ?_;simp only [zT9])
   | (refine zj (by rfl) 157 (.tmp 3) rfl w.heap.size 0 rfl g.toList _ hms hut rfl SIS.out ?_;simp only [zT9]))
  refine(CV.out _ (HS.out.grew G) (HKA.out.gr G) (HSA.out.gr G)).mono ?_
  rintro e w1 ⟨rfl,gg⟩
  have G2:=zb G gg
  obtain⟨b,hb⟩:∃ b,(va==0)=b:=⟨_,rfl⟩
  have HE:Hid (fitB K d S=b):=hQ9 (by rw [HF.out,HCD.out];rw [←hb];by_cases h0:va=0<;>simp [h0])
  clear hms hmk hc hd' gg HF
  go_wp2_with fail
  go_ret
  exact⟨by rw [HE.out];rfl,G2⟩
 ·have e1:((S.cm:Int)==(d:Int))=false:=by simp;omega
  have HE:Hid (fitB K d S=false):=hQ9 (by rw [HF.out];simp [hcd])
  clear hcd
  generalize S.cm=cm at *
  go_enter Tryz.func183,Tryz.ntmps183
  go_wp2_with fail
  go_ret
  exact⟨by rw [HE.out];rfl,G⟩
noncomputable def kvS (K:KP) (S:AP):Int:=kvE K.f K.R K.h S.cm S.who S.sw S.lf S.s S.l
theorem ki {K:KP} {S:AP} (hK:K.ok) (hS:S.ok) (w:World) (hs:Std w) (hk:K.at w) (ha:S.at w) :
 Calls Tryz.prog 35 #[.agg K.C,.agg S.C] w fun e w'=>e=.returned (.int .i64 (kvS K S))∧Grew w w' :=
 ziv K.f hK.f K.R K.RA K.Rc K.h S.cm S.who S.sw S.lf S.s S.A S.c S.l hS.cm hS.who hS.sw hS.lf hS.len hS.s hS.l hK.len hK.b w hs hk ha
theorem zez (S:AP) (w:World):Calls Tryz.prog 109 #[.agg S.C] w fun e w'=>e=.returned (.int .i64 S.who)∧Grew w w':=by
 have zs:=Ag.new w 79 S.C
 have G:=ze (za w) (.cells S.C 79)
 have hc:(w.alloc (.cells S.C 79)).cell? ⟨w.heap.size,1,none⟩=some (.int .i64 S.who):=by simpa using zs.cell 1 _ rfl
 clear zs
 generalize S.C=g at *
 generalize S.who=x at *
 go_enter Tryz.func109,Tryz.ntmps109
 go_wp2_with fail
 go_ret
 exact⟨rfl,G⟩
noncomputable def gfB (K:KP) (d:Nat) (S:AP):Bool:=decide (S.cm=d)&&decide (kvS K S=0)
theorem mk1_ap {K:KP} {S:AP} (hK:K.ok) (hS:S.ok) (d bd bk:Nat) (w:World) (hs:Std w) (hk:K.at w) (ha:S.at w) (hd:w.cell? ⟨bd,0,none⟩=some (.int .u64 (d:Nat))) (hkc:Ag w bk K.C.toList) :
 Calls Tryz.prog 110 #[.agg S.C,.pointer (some ⟨bd,0,none⟩),.pointer (some ⟨bk,0,none⟩)] w fun e w'=>e=.returned (.bool (gfB K d S))∧Grew w w':=by
 have zs:=Ag.new w 79 S.C
 have G:=ze (za w) (.cells S.C 79)
 have hc:(w.alloc (.cells S.C 79)).cell? ⟨w.heap.size,0,none⟩=some (.int .u64 (S.cm:Nat)):=by simpa using zs.cell 0 _ rfl
 have hd':(w.alloc (.cells S.C 79)).cell? ⟨bd,0,none⟩=some (.int .u64 (d:Nat)):=by
  rw [←hd]
  refine World.cell?_of_block (Below.heap_alloc _ _ _ ?_)
  rcases Nat.lt_or_ge bd w.heap.size with h | h
  ·exact h
  ·have:w.heap[bd]?=none:=Array.getElem?_eq_none h
   simp only [World.cell?,this]at hd
   cases hd
 have hut:=Tryz.underlying79
 have huk:=Tryz.underlying91
 have SIS:Hid (zI9 79=some S.C.toList.length):=hQ9 zJ
 have SIK:Hid (zI9 91=some K.C.toList.length):=hQ9 (show _=some 3 by kernel_rfl)
 have hms:=zs.cell
 have hmk:=(hkc.grew G).cell
 have CV:=hQ9 (fun W h1 h2 h3=>ki hK hS W h1 h2 h3)
 have HS:=hQ9 hs
 have HKA:=hQ9 hk
 have HSA:=hQ9 ha
 have HF:Hid (gfB K d S=(decide (S.cm=d)&&decide (kvS K S=0))):=hQ9 rfl
 clear zs hd hkc hs hk ha hK hS
 generalize S.C=g at *
 generalize K.C=gk at *
 generalize kvS K S=va at *
 by_cases hcd:S.cm=d
 ·have e1:((S.cm:Int)==(d:Int))=true:=by simp [hcd]
  have HCD:=hQ9 hcd
  clear hcd
  generalize S.cm=cm at *
  go_enter Tryz.func110,Tryz.ntmps110
  go_wp2_with(first
   | (refine zj (by rfl) 91 (.tmp 2) rfl bk 0 rfl gk.toList _ hmk huk rfl SIK.out ?_;simp only [zT9])
   | (refine zj (by rfl) 79 (.tmp 3) rfl w.heap.size 0 rfl g.toList _ hms hut rfl SIS.out ?_;simp only [zT9]))
  refine(CV.out _ (HS.out.grew G) (HKA.out.gr G) (HSA.out.gr G)).mono ?_
  rintro e w1 ⟨rfl,gg⟩
  have G2:=zb G gg
  obtain⟨b,hb⟩:∃ b,(va==0)=b:=⟨_,rfl⟩
  have HE:Hid (gfB K d S=b):=hQ9 (by rw [HF.out,HCD.out];rw [←hb];by_cases h0:va=0<;>simp [h0])
  clear hms hmk hc hd' gg HF
  go_wp2_with fail
  go_ret
  exact⟨by rw [HE.out];rfl,G2⟩
 ·have e1:((S.cm:Int)==(d:Int))=false:=by simp;omega
  have HE:Hid (gfB K d S=false):=hQ9 (by rw [HF.out];simp [hcd])
  clear hcd
  generalize S.cm=cm at *
  go_enter Tryz.func110,Tryz.ntmps110
  go_wp2_with fail
  go_ret
  exact⟨by rw [HE.out];rfl,G⟩
open Go.Maps
theorem yW:Keyed Tryz.prog 3:=int_keyed Tryz.underlying3
theorem zal (w:World):(zeroValue 157).run Tryz.prog w=.ok (.agg (#[.int .u64 0,.int .i64 0,.int .i64 0,.int .i64 0,.int .i64 0,.int .u64 0,.int .u64 0,.int .u64 0,.int .u64 0,.int .u64 0,.int .u64 0,.int .u64 0,.int .u64 0,.int .u64 0,.int .u64 0,.int .u64 0,.int .u64 0,.int .u64 0,.int .u64 0,.int .u64 0,.int .u64 0,.int .u64 0,.int .u64 0,.slice none 0 0])) w:=by kernel_rfl
theorem zga (n:Nat) (w:World):(Instr.makeMap 379 (some (.int .i64 (n:Int)))).run Tryz.prog w=.ok (.map (some w.heap.size)) (w.alloc (.map #[] 0)):=by
 simp [Instr.makeMap,run_underlying Tryz.underlying379,asInt,asIntOf,Result.andThen]
noncomputable def firstS (L:List SP):DataW Value:=firstD SP.who (fun S=>.agg S.C) L
theorem x9 (W:World) (cs:Array Value) (h:cs.size=24):∃ W',(W.alloc (.cells (zS24) 157)).setCells W.heap.size 0 cs.toList=W'∧(W.alloc (.cells (zS24) 157)).there W.heap.size 0 cs.size∧Grew W W'∧Ag W' W.heap.size cs.toList :=
 yT W 157 (zS24) cs h
theorem yu {H:Type} {P:Program} {k:TypeId} {R:Value→Option (DataW H × List MemPlace)} {w w':World} {b n:Nat} {D:DataW H} (h:w.ownsMap P k R b n D) (g:Grew w w'):w'.ownsMap P k R b n D:=by
 have hb:=h.lt
 obtain⟨es,clock,h1,Ft,hs,hD⟩:=h
 exact⟨es,clock,(g.block b hb).trans h1,Ft,hs,hD⟩
theorem add0 (q n:Nat):(⟨q,0,none⟩:Addr).add n=⟨q,n,none⟩:=by unfold Addr.add;split<;>simp_all
theorem RdC.at24 {w w':World} {A:Option Addr} {L:List SP} (h:RdC w A 24 (spL L)) (g:Grew w w') (k:Nat) (hk:k<L.length):∃ q,A=some ⟨q,0,none⟩∧q<w'.heap.size∧w'.rangeAt q (k*24) L[k].C.toList:=by
 obtain⟨q,e,hq,hr⟩:=(h.gr g) k (by rw [zbt];exact hk)
 exact⟨q,e,hq,by simpa [spL]using hr⟩
theorem by_sp (A:Option Addr) (c:Nat) (L:List SP) (hl:L.length≤1048576) (hw:∀ S∈L,in64 S.who) (w:World) (hr:RdC w A 24 (spL L)) :
 Calls Tryz.prog 271 #[.slice A L.length c,.func (.func 166) #[] #[]] w fun e w'=>e=.returned (.map (some w.heap.size))∧w'.ownsMap Tryz.prog 3 heldR w.heap.size L.length (firstS L)∧Grew w w':=by
 have hmm:=fun w=>zga L.length w
 have hlc:(0:Int)≤(L.length:Int):=by omega
 have hut:=Tryz.underlying157
 go_enter Tryz.func271,Tryz.ntmps271
 go_wp2_with fail
 go_loopw [16] (fun iv wr=>∃ i:Nat,i≤L.length∧iv=.int .i64 i∧wr.ownsMap Tryz.prog 3 heldR w.heap.size i (firstS (L.take i))∧Grew w wr) (fun i _=>L.length-(Go.RowKit.intOf i).toNat)
 case atStart=>exact⟨0,Nat.zero_le _,rfl,World.ownsMap_made _ _ _ _,(Below.refl _ _).alloc (zN9 _) _⟩
 case round =>
  obtain⟨i,hil,rfl,hown,hg⟩:=hrel
  by_cases hlt:i<L.length
  ·obtain⟨q,hA,hq,hm⟩:=RdC.at24 hr hg i hlt
   subst hA
   have hts:L.take (i+1)=L.take i++[L[i]]:=by rw [List.take_succ_eq_append_getElem hlt]
   have HTS:=hQ9 hts
   have HW:=hw L[i] (List.getElem_mem hlt)
   clear hts
   have hi0:(0:Int)≤(i:Int):=by omega
   have hi1:(i:Int)<(L.length:Int):=by omega
   have e4:IntKind.i64.wrap ((i:Int)+1)=(i:Int)+1:=IntWalk.i64_in _ (by omega)
   generalize L[i]=S at *
   have CW:=hQ9 (fun W=>zey S W)
   have SIS:Hid (zI9 157=some S.C.toList.length):=hQ9 zK
   have SIZ:Hid (zI9 157=some S.C.size):=hQ9 zK
   have HON:=hQ9 S.one
   obtain⟨w2,hw2,ht2,g2,z2⟩:=x9 wr S.C rfl
   have HW2:=hQ9 hw2
   have HT2:=hQ9 ht2
   have hm2:=z2.cell
   clear hw2 ht2
   obtain⟨k,hk⟩:∃ k,S.who=k:=⟨_,rfl⟩
   have hkr:-9223372036854775808≤k∧k≤9223372036854775807:=by rw [←hk];exact HW
   have hkey:keyOf Tryz.prog 3 (.int .i64 k)=some (.int .i64 k):=keyOf_int_mk Tryz.underlying3 (WalkArith.wf_i64 hkr)
   have HK:=hQ9 hk
   rw [hk]at CW
   clear hk
   go_wp2_with(first
    | (with_reducible refine wpList_load_mid rfl 157 (.tmp 18) rfl q (i*24) rfl S.C.toList _ hm hut rfl SIS.out ?_;simp only [zT9])
    | (with_reducible refine wpList_store_mid rfl 157 (.tmp 7) (.tmp 19) rfl wr.heap.size 0 S.C rfl rfl HT2.out SIZ.out HON.out ?_;rw [HW2.out])
    | (with_reducible refine wpList_load_mid rfl 157 (.tmp 7) rfl wr.heap.size 0 rfl S.C.toList _ hm2 hut rfl SIS.out ?_;simp only [zT9]))
   refine(CW.out w2).mono ?_
   rintro e w3 ⟨rfl,gg⟩
   have hown3:=yu hown (zb g2 gg)
   have G3:=zb hg (zb g2 gg)
   have z3:=z2.grew gg
   obtain⟨bb,hbb⟩:∃ bb,Maps.has (firstS (L.take i)) (.int .i64 k)=bb:=⟨_,rfl⟩
   clear hown hm hm2 z2 g2 gg hg HT2 HW2 CW
   cases bb
   ·have hu:(firstS (L.take i)).atKey (.int .i64 k) (.held (.agg (zS24:Array Value)))=.held (.agg (zS24:Array Value)):=Maps.atKey_of_not_has hbb _
    have HO4:Hid ((#[.int .u64 0,.int .i64 0,.int .i64 0,.int .i64 0,.int .i64 0,.int .u64 0,.int .u64 0,.int .u64 0,.int .u64 0,.int .u64 0,.int .u64 0,.int .u64 0,.int .u64 0,.int .u64 0,.int .u64 0,.int .u64 0,.int .u64 0,.int .u64 0,.int .u64 0,.int .u64 0,.int .u64 0,.int .u64 0,.int .u64 0,.slice none 0 0]:Array Value).all (·.oneCell')=true):=hQ9 (by simp [Value.oneCell'])
    obtain⟨w4,hw4,ht4,g4,z4⟩:=x9 w3 (zS24:Array Value) rfl
    have HW4:=hQ9 hw4
    have HT4:=hQ9 ht4
    have SI4:Hid (zI9 157=some ((zS24:Array Value)).size):=hQ9 zK
    have hown4:=yu hown3 g4
    have hm4:=(z3.grew g4).cell
    have G4:=zb G3 g4
    clear hw4 ht4 g4 z4 z3 G3
    go_wp2_with(first
     | (at_lookup;refine yw _ rfl _ _ 379 rfl 3 157 yW Tryz.underlying379 (zal _) w.heap.size i _ rfl hown3 _ _ rfl hkey (.agg (zS24:Array Value)) hu _ hbb ?_)
     | (with_reducible refine wpList_store_mid rfl 157 (.tmp 9) (.tmp 27) rfl w3.heap.size 0 (zS24:Array Value) rfl rfl HT4.out SI4.out HO4.out ?_;rw [HW4.out])
     | (with_reducible refine wpList_load_mid rfl 157 (.tmp 7) rfl wr.heap.size 0 rfl S.C.toList _ hm4 hut rfl SIS.out ?_;simp only [zT9])
     | (at_mapUpdate;refine wpList_mapUpdate_own _ rfl _ _ _ 379 rfl 3 157 yW Tryz.underlying379 heldR w.heap.size i _ rfl hown4 (by unfold maxLen;omega) _ _ _ rfl rfl hkey (.held (.agg S.C)) [] rfl ?_;intro w5 hown5 hgrow5))
    go_roundw
    case rel=>exact⟨i+1,by omega,by go_num,by
     rw [HTS.out]
     have hf:firstS (L.take i++[S])=(firstS (L.take i)).put (.int .i64 k) (.held (.agg S.C)):=by
      have:=xq SP.who (fun S=>Value.agg S.C) (L:=L.take i) (x:=S) (by rw [HK.out];exact hbb)
      rw [HK.out]at this
      exact this
     rw [hf]
     exact hown5,G4.grown hgrow5 G4.size (fun j hj=>by cases hj;exact zN9 _)⟩
    case measure=>simp [Go.RowKit.intOf];omega
   ·obtain⟨x,hfx,hx,-⟩:=qV SP.who (L.take i) (((yj SP.who (fun S=>Value.agg S.C) (L.take i)).2.1 k).1 hbb)
    have hu:(firstS (L.take i)).atKey (.int .i64 k) (.held (.agg (zS24:Array Value)))=.held (.agg x.C):=(yj SP.who (fun S=>Value.agg S.C) (L.take i)).2.2 k x _ hfx
    have HO4:=hQ9 x.one
    clear hfx hx
    obtain⟨w4,hw4,ht4,g4,z4⟩:=x9 w3 x.C rfl
    have HW4:=hQ9 hw4
    have HT4:=hQ9 ht4
    have SI4:Hid (zI9 157=some (x.C).size):=hQ9 zK
    have hown4:=yu hown3 g4
    have hm4:=(z3.grew g4).cell
    have G4:=zb G3 g4
    clear hw4 ht4 g4 z4 z3 G3
    go_wp2_with(first
     | (at_lookup;refine yw _ rfl _ _ 379 rfl 3 157 yW Tryz.underlying379 (zal _) w.heap.size i _ rfl hown3 _ _ rfl hkey (.agg x.C) hu _ hbb ?_)
     | (with_reducible refine wpList_store_mid rfl 157 (.tmp 9) (.tmp 27) rfl w3.heap.size 0 x.C rfl rfl HT4.out SI4.out HO4.out ?_;rw [HW4.out]))
    go_roundw
    case rel=>exact⟨i+1,by omega,by go_num,by
     rw [HTS.out]
     have hf:firstS (L.take i++[S])=firstS (L.take i):=xd SP.who (fun S=>Value.agg S.C) (L:=L.take i) (x:=S) (by rw [HK.out];exact hbb)
     rw [hf]
     exact hown4.mono (by omega),G4⟩
    case measure=>simp [Go.RowKit.intOf];omega
  ·obtain rfl:i=L.length:=by omega
   rw [List.take_length]at hown
   go_wp2_with fail
   go_ret
   exact⟨rfl,hown,hg⟩
theorem zam (w:World):(zeroValue 79).run Tryz.prog w=.ok (.agg (#[.int .u64 0,.int .i64 0,.int .i64 0,.int .i64 0,.int .u64 0,.int .u64 0,.int .u64 0,.int .u64 0,.int .u64 0,.int .u64 0,.int .u64 0,.int .u64 0,.int .u64 0,.int .u64 0,.int .u64 0,.int .u64 0,.int .u64 0,.int .u64 0,.int .u64 0,.int .u64 0,.int .u64 0,.int .u64 0,.slice none 0 0])) w:=by kernel_rfl
theorem zgb (n:Nat) (w:World):(Instr.makeMap 325 (some (.int .i64 (n:Int)))).run Tryz.prog w=.ok (.map (some w.heap.size)) (w.alloc (.map #[] 0)):=by
 simp [Instr.makeMap,run_underlying Tryz.underlying325,asInt,asIntOf,Result.andThen]
noncomputable def firstA (L:List AP):DataW Value:=firstD AP.who (fun S=>.agg S.C) L
theorem jg (W:World) (cs:Array Value) (h:cs.size=23):∃ W',(W.alloc (.cells (zA23) 79)).setCells W.heap.size 0 cs.toList=W'∧(W.alloc (.cells (zA23) 79)).there W.heap.size 0 cs.size∧Grew W W'∧Ag W' W.heap.size cs.toList :=
 yT W 79 (zA23) cs h
theorem RdC.at23 {w w':World} {A:Option Addr} {L:List AP} (h:RdC w A 23 (apL L)) (g:Grew w w') (k:Nat) (hk:k<L.length):∃ q,A=some ⟨q,0,none⟩∧q<w'.heap.size∧w'.rangeAt q (k*23) L[k].C.toList:=by
 obtain⟨q,e,hq,hr⟩:=(h.gr g) k (by rw [zbx];exact hk)
 exact⟨q,e,hq,by simpa [apL]using hr⟩
theorem by_ap (A:Option Addr) (c:Nat) (L:List AP) (hl:L.length≤1048576) (hw:∀ S∈L,in64 S.who) (w:World) (hr:RdC w A 23 (apL L)) :
 Calls Tryz.prog 217 #[.slice A L.length c,.func (.func 109) #[] #[]] w fun e w'=>e=.returned (.map (some w.heap.size))∧w'.ownsMap Tryz.prog 3 heldR w.heap.size L.length (firstA L)∧Grew w w':=by
 have hmm:=fun w=>zgb L.length w
 have hlc:(0:Int)≤(L.length:Int):=by omega
 have hut:=Tryz.underlying79
 go_enter Tryz.func217,Tryz.ntmps217
 go_wp2_with fail
 go_loopw [16] (fun iv wr=>∃ i:Nat,i≤L.length∧iv=.int .i64 i∧wr.ownsMap Tryz.prog 3 heldR w.heap.size i (firstA (L.take i))∧Grew w wr) (fun i _=>L.length-(Go.RowKit.intOf i).toNat)
 case atStart=>exact⟨0,Nat.zero_le _,rfl,World.ownsMap_made _ _ _ _,(Below.refl _ _).alloc (zN9 _) _⟩
 case round =>
  obtain⟨i,hil,rfl,hown,hg⟩:=hrel
  by_cases hlt:i<L.length
  ·obtain⟨q,hA,hq,hm⟩:=RdC.at23 hr hg i hlt
   subst hA
   have hts:L.take (i+1)=L.take i++[L[i]]:=by rw [List.take_succ_eq_append_getElem hlt]
   have HTS:=hQ9 hts
   have HW:=hw L[i] (List.getElem_mem hlt)
   clear hts
   have hi0:(0:Int)≤(i:Int):=by omega
   have hi1:(i:Int)<(L.length:Int):=by omega
   have e4:IntKind.i64.wrap ((i:Int)+1)=(i:Int)+1:=IntWalk.i64_in _ (by omega)
   generalize L[i]=S at *
   have CW:=hQ9 (fun W=>zez S W)
   have SIS:Hid (zI9 79=some S.C.toList.length):=hQ9 zJ
   have SIZ:Hid (zI9 79=some S.C.size):=hQ9 zJ
   have HON:=hQ9 S.one
   obtain⟨w2,hw2,ht2,g2,z2⟩:=jg wr S.C rfl
   have HW2:=hQ9 hw2
   have HT2:=hQ9 ht2
   have hm2:=z2.cell
   clear hw2 ht2
   obtain⟨k,hk⟩:∃ k,S.who=k:=⟨_,rfl⟩
   have hkr:-9223372036854775808≤k∧k≤9223372036854775807:=by rw [←hk];exact HW
   have hkey:keyOf Tryz.prog 3 (.int .i64 k)=some (.int .i64 k):=keyOf_int_mk Tryz.underlying3 (WalkArith.wf_i64 hkr)
   have HK:=hQ9 hk
   rw [hk]at CW
   clear hk
   go_wp2_with(first
    | (with_reducible refine wpList_load_mid rfl 79 (.tmp 18) rfl q (i*23) rfl S.C.toList _ hm hut rfl SIS.out ?_;simp only [zT9])
    | (with_reducible refine wpList_store_mid rfl 79 (.tmp 7) (.tmp 19) rfl wr.heap.size 0 S.C rfl rfl HT2.out SIZ.out HON.out ?_;rw [HW2.out])
    | (with_reducible refine wpList_load_mid rfl 79 (.tmp 7) rfl wr.heap.size 0 rfl S.C.toList _ hm2 hut rfl SIS.out ?_;simp only [zT9]))
   refine(CW.out w2).mono ?_
   rintro e w3 ⟨rfl,gg⟩
   have hown3:=yu hown (zb g2 gg)
   have G3:=zb hg (zb g2 gg)
   have z3:=z2.grew gg
   obtain⟨bb,hbb⟩:∃ bb,Maps.has (firstA (L.take i)) (.int .i64 k)=bb:=⟨_,rfl⟩
   clear hown hm hm2 z2 g2 gg hg HT2 HW2 CW
   cases bb
   ·have hu:(firstA (L.take i)).atKey (.int .i64 k) (.held (.agg (zA23:Array Value)))=.held (.agg (zA23:Array Value)):=Maps.atKey_of_not_has hbb _
    have HO4:Hid ((#[.int .u64 0,.int .i64 0,.int .i64 0,.int .i64 0,.int .u64 0,.int .u64 0,.int .u64 0,.int .u64 0,.int .u64 0,.int .u64 0,.int .u64 0,.int .u64 0,.int .u64 0,.int .u64 0,.int .u64 0,.int .u64 0,.int .u64 0,.int .u64 0,.int .u64 0,.int .u64 0,.int .u64 0,.int .u64 0,.slice none 0 0]:Array Value).all (·.oneCell')=true):=hQ9 (by simp [Value.oneCell'])
    obtain⟨w4,hw4,ht4,g4,z4⟩:=jg w3 (zA23:Array Value) rfl
    have HW4:=hQ9 hw4
    have HT4:=hQ9 ht4
    have SI4:Hid (zI9 79=some ((zA23:Array Value)).size):=hQ9 zJ
    have hown4:=yu hown3 g4
    have hm4:=(z3.grew g4).cell
    have G4:=zb G3 g4
    clear hw4 ht4 g4 z4 z3 G3
    go_wp2_with(first
     | (at_lookup;refine yw _ rfl _ _ 325 rfl 3 79 yW Tryz.underlying325 (zam _) w.heap.size i _ rfl hown3 _ _ rfl hkey (.agg (zA23:Array Value)) hu _ hbb ?_)
     | (with_reducible refine wpList_store_mid rfl 79 (.tmp 9) (.tmp 27) rfl w3.heap.size 0 (zA23:Array Value) rfl rfl HT4.out SI4.out HO4.out ?_;rw [HW4.out])
     | (with_reducible refine wpList_load_mid rfl 79 (.tmp 7) rfl wr.heap.size 0 rfl S.C.toList _ hm4 hut rfl SIS.out ?_;simp only [zT9])
     | (at_mapUpdate;refine wpList_mapUpdate_own _ rfl _ _ _ 325 rfl 3 79 yW Tryz.underlying325 heldR w.heap.size i _ rfl hown4 (by unfold maxLen;omega) _ _ _ rfl rfl hkey (.held (.agg S.C)) [] rfl ?_;intro w5 hown5 hgrow5))
    go_roundw
    case rel=>exact⟨i+1,by omega,by go_num,by
     rw [HTS.out]
     have hf:firstA (L.take i++[S])=(firstA (L.take i)).put (.int .i64 k) (.held (.agg S.C)):=by
      have:=xq AP.who (fun S=>Value.agg S.C) (L:=L.take i) (x:=S) (by rw [HK.out];exact hbb)
      rw [HK.out]at this
      exact this
     rw [hf]
     exact hown5,G4.grown hgrow5 G4.size (fun j hj=>by cases hj;exact zN9 _)⟩
    case measure=>simp [Go.RowKit.intOf];omega
   ·obtain⟨x,hfx,hx,-⟩:=qV AP.who (L.take i) (((yj AP.who (fun S=>Value.agg S.C) (L.take i)).2.1 k).1 hbb)
    have hu:(firstA (L.take i)).atKey (.int .i64 k) (.held (.agg (zA23:Array Value)))=.held (.agg x.C):=(yj AP.who (fun S=>Value.agg S.C) (L.take i)).2.2 k x _ hfx
    have HO4:=hQ9 x.one
    clear hfx hx
    obtain⟨w4,hw4,ht4,g4,z4⟩:=jg w3 x.C rfl
    have HW4:=hQ9 hw4
    have HT4:=hQ9 ht4
    have SI4:Hid (zI9 79=some (x.C).size):=hQ9 zJ
    have hown4:=yu hown3 g4
    have hm4:=(z3.grew g4).cell
    have G4:=zb G3 g4
    clear hw4 ht4 g4 z4 z3 G3
    go_wp2_with(first
     | (at_lookup;refine yw _ rfl _ _ 325 rfl 3 79 yW Tryz.underlying325 (zam _) w.heap.size i _ rfl hown3 _ _ rfl hkey (.agg x.C) hu _ hbb ?_)
     | (with_reducible refine wpList_store_mid rfl 79 (.tmp 9) (.tmp 27) rfl w3.heap.size 0 x.C rfl rfl HT4.out SI4.out HO4.out ?_;rw [HW4.out]))
    go_roundw
    case rel=>exact⟨i+1,by omega,by go_num,by
     rw [HTS.out]
     have hf:firstA (L.take i++[S])=firstA (L.take i):=xd AP.who (fun S=>Value.agg S.C) (L:=L.take i) (x:=S) (by rw [HK.out];exact hbb)
     rw [hf]
     exact hown4.mono (by omega),G4⟩
    case measure=>simp [Go.RowKit.intOf];omega
  ·obtain rfl:i=L.length:=by omega
   rw [List.take_length]at hown
   go_wp2_with fail
   go_ret
   exact⟨rfl,hown,hg⟩
end Go.Proofs.YtkpnheenacchhaaGreatDoor
namespace Go.Proofs.YtkpnheenacchhaaGreatDoor
open Go.RowKit
noncomputable def stpK (seed:Int) (h i m cm:Nat) (at_:Int) (A:Option Addr) (c:Nat):SP:=⟨cm,i,at_,i,m,signF (secN (sdI seed i) (m:Int)) (stD cm (i:Int) at_),A,c,pathN (ksL seed h i) m⟩
theorem pow5 (h:Nat) (hh:h≤4):2^h≤16∧leavesOk (2^h)=true:=by
 have:h=0∨h=1∨h=2∨h=3∨h=4:=by omega
 rcases this with rfl | rfl | rfl | rfl | rfl<;>decide
theorem zpi (seed:Int) (h i m cm:Nat) (at_:Int) (A:Option Addr) (c:Nat) (hh:h≤4) (hi:i<4) (hm:m<2^h) (hc:cm<18446744073709551616) (ha:in64 at_):(stpK seed h i m cm at_ A c).ok:=by
 have hp:=pow5 h hh
 exact⟨hc,⟨by show _≤(i:Int);omega,by show(i:Int)≤_;omega⟩,ha,⟨by show _≤(i:Int);omega,by show(i:Int)≤_;omega⟩,⟨by show _≤(m:Int);omega,by show(m:Int)≤_;omega⟩,fun k _=>zd0 _ _ _ (qt _ _ _),by
  show(pathN (ksL seed h i) m).length≤1000
  unfold ksL
  rw [kE _ h (by omega) m hm];omega,zeb _ _ (xM _ _)⟩
theorem zpj (seed:Int) (h i m:Nat) (hh:h≤4) (hi:i<4) (hm:m<2^h) (p cm:Nat) (hc:cm<18446744073709551616) (at_:Int) (ha:in64 at_) (ht:tmB at_=true) (w:World) (hS:Std w) (hk:KyAt w (p+1) p (i:Int) (sdI seed i) (ksL seed h i) m (2^h)) :
 Calls Tryz.prog 122 #[.pointer (some ⟨p+1,0,none⟩),.int .i64 (i:Int),.int .u64 (cm:Nat),.int .i64 at_] w fun e w' =>
  (∃ A c,e=.returned (.tuple #[.agg (stpK seed h i m cm at_ A c).C,.int .i64 0])∧(stpK seed h i m cm at_ A c).at w'∧(∀ ad,A=some ad→w.heap.size≤ad.block))∧Tn (p+1) w w'∧KyAt w' (p+1) p (i:Int) (sdI seed i) (ksL seed h i) (m+1) (2^h):=by
 have hp:=pow5 h hh
 have hl:(ksL seed h i).length=2^h:=yR _ _
 exact(zkq (p+1) p (i:Int) (sdI seed i) (ksL seed h i) m (2^h) (by rw [hl];omega) (by rw [hl];omega) (by rw [hl];omega) (by rw [hl];exact hp.2) (xM _ _) (zbv _ _) (fun j hj=>by
  rw [hl]at hj
  unfold ksL
  rw [kE _ h (by omega) j hj];omega) cm hc (i:Int) at_ ⟨by omega,by omega⟩ ha ht (by rw [hl];exact hm) hm w hS hk).mono fun e w' ⟨⟨A,c,h1,h2,h3⟩,h4,h5⟩=>⟨⟨A,c,h1,h2,h3⟩,h4,h5⟩
end Go.Proofs.YtkpnheenacchhaaGreatDoor
