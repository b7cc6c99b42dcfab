/- gather.Each at stamps: of those that fit the first of each, ascending. -/
import Derived.Test.YtidjnnnigcmdpaaGreatDoorJzz
import Derived.Laws.MakeOwn
import Derived.Test.YtidjnnnigcmdpaaGreatDoorJbj
import Derived.Test.YtidjnnnigcmdpaaGreatDoorJau
import Derived.Test.YtidjnnnigcmdpaaGreatDoorJao
import Derived.Test.YtidjnnnigcmdpaaGreatDoorJbh
set_option maxHeartbeats 2000000
set_option maxRecDepth 100000
set_option linter.unusedSimpArgs false
set_option linter.unusedVariables false
set_option linter.unnecessarySimpa false
namespace Go.Proofs.YtidjnnnigcmdpaaGreatDoor
open Go.RowKit Go.Maps
theorem yd (w:World) (cs:Array Value) (t:TypeId) (j:Nat) (u:Value) (h:cs.toList[j]?=some u):(w.alloc (.cells cs t)).cell? ((⟨w.heap.size,0,none⟩:Addr).add j)=some u:=by
 rw [add0]
 simpa using (Ag.new w t cs).cell j u h
theorem yb {w w':World} {b o:Nat} {v:Value} (h:w.cell? ⟨b,o,none⟩=some v) (g:Grew w w'):w'.cell? ⟨b,o,none⟩=some v:=by
 rw [←h]
 refine World.cell?_of_block (g.block _ ?_)
 rcases Nat.lt_or_ge b w.heap.size with h' | h'
 ·exact h'
 ·have:w.heap[b]?=none:=Array.getElem?_eq_none h'
  simp only [World.cell?,this]at h
  cases h
theorem zK {P:Program} (w:World) {ops:Array Oper} {rest:List Oper} {o:Oper} {a:Act} {Q:Exit→Act→World→Prop} (hgd:o.guard=none) (s x:Operand) (t:TypeId)
 (ho:o.op=.call { callee:=.builtin .append,args:=#[s,x],argTypes:=#[t,t] })
 (base:Nat) (e:TypeId) (i:TypeInfo) (z:Value) (size bytes:Nat) (ht:P.underlying t=some (.slice e)) (hi:P.info? e=some i) (hz:i.zero=some z)
 (hsize:i.size=size) (hby:i.bytes=bytes) (hzs:z.cells.size=size) (hsz:0<size)
 (v:Value) (n:Nat) (xs:List Value) (hs:a.eval s=v) (hown:w.ownsRow base e size v n xs)
 (ad:Addr) (m c:Nat) (news:List Value) (hx:a.eval x=.slice (some ad) m c) (hl:news.length=m*size) (hnews:∀ j u,news[j]?=some u→w.cell? (ad.add j)=some u) (h1:∀ u∈news,u.oneCell'=true)
 (h63:n+m≤maxLen) (hbytes:(n+m)*bytes≤140737488355328) (hbase:base≤w.heap.size)
 (h:∀ v' w',w'.ownsRow base e size v' (n+m) (xs++news)→w.grownBy w' v.ownBlock→(v'.ownBlock=v.ownBlock∨v'.ownBlock=some w.heap.size)→wpList P ops Q rest (a.put o.dst v') w'):wpList P ops Q (o::rest) a w :=
 wpList_plain hgd fun _ hK=>by
  obtain⟨v',w',hrun,h2,h3,_,h4⟩:=run_append_own_at (P:=P) w base t o.type e i z size bytes ht hi hz hsize hby hzs hsz v n xs hown ad m c news hl hnews h1 h63 hbytes hbase
  unfold Oper.wp execOp
  simp only [ho,resolve,invoke,builtin,Sem.run_bind,Sem.run_pure,Result.andThen_ok,List.map_toArray,List.map_cons,List.map_nil,hs,hx,hrun]
  exact hK _ _ (h v' w' h2 h3 h4)
theorem xK {w:World} {base n:Nat} {e:TypeId} {v:Value} {xs:List Value} (h:w.ownsRow base e 1 v n xs) :
 ∃ A c,v=.slice A n c∧Rd w w.heap.size A xs∧n≤c∧∀ ad,A=some ad→base≤ad.block∧ad.block<w.heap.size:=by
 obtain⟨A,c,rfl,hc,hl,hr⟩:=yN h
 exact⟨A,c,rfl,hr,hc,fun ad e=>by subst e;exact zG h ad.block rfl⟩
theorem kD {w w':World} {A:Option Addr} {xs:List Value} {row:Option Nat} (h:Rd w w.heap.size A xs) (k:w.grownBy w' row) (hn:∀ ad,A=some ad→row≠some ad.block):Rd w' w'.heap.size A xs :=
 (h.kp (S:=fun j=>row=some j) (yD (zJ _ w) k (fun g hg=>.inl hg)) (Nat.le_refl _) (fun ad e _=>hn ad e)).more k.size
end Go.Proofs.YtidjnnnigcmdpaaGreatDoor
namespace Go.Proofs.YtidjnnnigcmdpaaGreatDoor
open Go.RowKit
noncomputable def chosen (K:KP) (d:Nat) (L:List SP):List SP:=(eachL SP.who (L.filter (fitB K d))).take (2*K.f+1).toNat
noncomputable def vvS (K:KP) (S:VP):Int:=vvE K.f K.R K.h S.vw S.cm S.who S.sw S.lf S.s S.l
theorem qR {K:KP} {S:VP} (hK:K.ok) (hS:S.ok) (w:World) (hs:Std w) (hk:K.at w) (ha:S.at w) :
 Calls Tryz.prog 27 #[.agg K.C,.agg S.C] w fun e w'=>e=.returned (.int .i64 (vvS K S))∧Grew w w' :=
 ze2 K.f hK.f K.R K.RA K.Rc K.h S.vw S.cm S.who S.sw S.lf S.s S.A S.c S.l hS.cm hS.who hS.vw hS.sw hS.lf hS.len hS.s hS.l hK.len hK.b w hs hk ha
theorem zca (S:VP) (w:World):Calls Tryz.prog 101 #[.agg S.C] w fun e w'=>e=.returned (.int .i64 S.who)∧Grew w w':=by
 have zs:=Ag.new w 69 S.C
 have G:=zg (zc w) (.cells S.C 69)
 have hc:(w.alloc (.cells S.C 69)).cell? ⟨w.heap.size,2,none⟩=some (.int .i64 S.who):=by simpa using zs.cell 2 _ rfl
 clear zs
 generalize S.C=g at *
 generalize S.who=x at *
 go_enter Tryz.func101,Tryz.ntmps101
 go_wp2_with fail
 go_ret
 exact⟨rfl,G⟩
noncomputable def vgB (K:KP) (u:Int) (d:Nat) (S:VP):Bool:=decide (S.vw=u)&&(decide (S.cm=d)&&decide (vvS K S=0))
theorem mk1_vp {K:KP} {S:VP} (hK:K.ok) (hS:S.ok) (u:Int) (d bu bd bk:Nat) (w:World) (hs:Std w) (hk:K.at w) (ha:S.at w) (hu:w.cell? ⟨bu,0,none⟩=some (.int .i64 u)) (hd:w.cell? ⟨bd,0,none⟩=some (.int .u64 (d:Nat))) (hkc:Ag w bk K.C.toList) :
 Calls Tryz.prog 102 #[.agg S.C,.pointer (some ⟨bu,0,none⟩),.pointer (some ⟨bd,0,none⟩),.pointer (some ⟨bk,0,none⟩)] w fun e w'=>e=.returned (.bool (vgB K u d S))∧Grew w w':=by
 have zs:=Ag.new w 69 S.C
 have G:=zg (zc w) (.cells S.C 69)
 have hc0:(w.alloc (.cells S.C 69)).cell? ⟨w.heap.size,0,none⟩=some (.int .i64 S.vw):=by simpa using zs.cell 0 _ rfl
 have hc1:(w.alloc (.cells S.C 69)).cell? ⟨w.heap.size,1,none⟩=some (.int .u64 (S.cm:Nat)):=by simpa using zs.cell 1 _ rfl
 have hu':=yb hu G
 have hd':=yb hd G
 have hut:=Tryz.underlying69
 have huk:=Tryz.underlying49
 have SIS:Hid ((Tryz.prog.info? 69).map (·.size)=some S.C.toList.length):=hQ9 zH
 have SIK:Hid ((Tryz.prog.info? 49).map (·.size)=some K.C.toList.length):=hQ9 (show _=some 3 by kernel_rfl)
 have hms:=zs.cell
 have hmk:=(hkc.grew G).cell
 have CV:=hQ9 (fun W h1 h2 h3=>qR hK hS W h1 h2 h3)
 have HS:=hQ9 hs
 have HKA:=hQ9 hk
 have HSA:=hQ9 ha
 have HF:Hid (vgB K u d S=(decide (S.vw=u)&&(decide (S.cm=d)&&decide (vvS K S=0)))):=hQ9 rfl
 clear zs hd hu hkc hs hk ha hK hS
 generalize S.C=g at *
 generalize K.C=gk at *
 generalize vvS K S=va at *
 by_cases hcu:S.vw=u
 case neg =>
  have e1:(S.vw==u)=false:=by simpa using hcu
  have HE:Hid (vgB K u d S=false):=hQ9 (by rw [HF.out];simp [hcu])
  clear hcu
  generalize S.vw=vw at *
  generalize S.cm=cm at *
  go_enter Tryz.func102,Tryz.ntmps102
  go_wp2_with fail
  go_ret
  exact⟨by rw [HE.out];rfl,G⟩
 have e0:(S.vw==u)=true:=by simpa using hcu
 have HCU:=hQ9 hcu
 clear hcu
 generalize S.vw=vw at *
 by_cases hcd:S.cm=d
 ·have e1:((S.cm:Int)==(d:Int))=true:=by simp [hcd]
  have HCD:=hQ9 hcd
  clear hcd
  generalize S.cm=cm at *
  go_enter Tryz.func102,Tryz.ntmps102
  go_wp2_with(first
   | (refine zw (by rfl) 49 (.tmp 3) rfl bk 0 rfl gk.toList _ hmk huk rfl SIK.out ?_;simp only [Array.toArray_toList])
   | (refine zw (by rfl) 69 (.tmp 4) rfl w.heap.size 0 rfl g.toList _ hms hut rfl SIS.out ?_;simp only [Array.toArray_toList]))
  refine(CV.out _ (HS.out.grew G) (HKA.out.gr G) (HSA.out.gr G)).mono ?_
  rintro e w1 ⟨rfl,gg⟩
  have G2:=ze G gg
  obtain⟨b,hb⟩:∃ b,(va==0)=b:=⟨_,rfl⟩
  have HE:Hid (vgB K u d S=b):=hQ9 (by rw [HF.out,HCU.out,HCD.out];rw [←hb];by_cases h0:va=0<;>simp [h0])
  clear hms hmk hc0 hc1 hd' hu' gg HF
  go_wp2_with fail
  go_ret
  exact⟨by rw [HE.out];rfl,G2⟩
 ·have e1:((S.cm:Int)==(d:Int))=false:=by simp;omega
  have HE:Hid (vgB K u d S=false):=hQ9 (by rw [HF.out];simp [hcd])
  clear hcd
  generalize S.cm=cm at *
  go_enter Tryz.func102,Tryz.ntmps102
  go_wp2_with fail
  go_ret
  exact⟨by rw [HE.out];rfl,G⟩
open Go.Maps
theorem qh (w:World):(zeroValue 69).run Tryz.prog w=.ok (.agg (#[.int .i64 0,.int .u64 0,.int .i64 0,.int .i64 0,.int .i64 0,.int .u64 0,.int .u64 0,.int .u64 0,.int .u64 0,.int .u64 0,.int .u64 0,.int .u64 0,.int .u64 0,.int .u64 0,.int .u64 0,.int .u64 0,.int .u64 0,.int .u64 0,.int .u64 0,.int .u64 0,.int .u64 0,.int .u64 0,.int .u64 0,.slice none 0 0])) w:=by kernel_rfl
theorem zc5 (n:Nat) (w:World):(Instr.makeMap 313 (some (.int .i64 (n:Int)))).run Tryz.prog w=.ok (.map (some w.heap.size)) (w.alloc (.map #[] 0)):=by
 simp [Instr.makeMap,run_underlying Tryz.underlying313,asInt,asIntOf,Result.andThen]
noncomputable def firstV (L:List VP):DataW Value:=firstD VP.who (fun S=>.agg S.C) L
theorem xQ (W:World) (cs:Array Value) (h:cs.size=24):∃ W',(W.alloc (.cells (#[.int .i64 0,.int .u64 0,.int .i64 0,.int .i64 0,.int .i64 0,.int .u64 0,.int .u64 0,.int .u64 0,.int .u64 0,.int .u64 0,.int .u64 0,.int .u64 0,.int .u64 0,.int .u64 0,.int .u64 0,.int .u64 0,.int .u64 0,.int .u64 0,.int .u64 0,.int .u64 0,.int .u64 0,.int .u64 0,.int .u64 0,.slice none 0 0]) 69)).setCells W.heap.size 0 cs.toList=W'∧(W.alloc (.cells (#[.int .i64 0,.int .u64 0,.int .i64 0,.int .i64 0,.int .i64 0,.int .u64 0,.int .u64 0,.int .u64 0,.int .u64 0,.int .u64 0,.int .u64 0,.int .u64 0,.int .u64 0,.int .u64 0,.int .u64 0,.int .u64 0,.int .u64 0,.int .u64 0,.int .u64 0,.int .u64 0,.int .u64 0,.int .u64 0,.int .u64 0,.slice none 0 0]) 69)).there W.heap.size 0 cs.size∧Grew W W'∧Ag W' W.heap.size cs.toList :=
 zW W 69 (#[.int .i64 0,.int .u64 0,.int .i64 0,.int .i64 0,.int .i64 0,.int .u64 0,.int .u64 0,.int .u64 0,.int .u64 0,.int .u64 0,.int .u64 0,.int .u64 0,.int .u64 0,.int .u64 0,.int .u64 0,.int .u64 0,.int .u64 0,.int .u64 0,.int .u64 0,.int .u64 0,.int .u64 0,.int .u64 0,.int .u64 0,.slice none 0 0]) cs h
theorem RdC.at24v {w w':World} {A:Option Addr} {L:List VP} (h:RdC w A 24 (vpL L)) (g:Grew w w') (k:Nat) (hk:k<L.length):∃ q,A=some ⟨q,0,none⟩∧q<w'.heap.size∧w'.rangeAt q (k*24) L[k].C.toList:=by
 obtain⟨q,e,hq,hr⟩:=(h.gr g) k (by rw [zaf];exact hk)
 exact⟨q,e,hq,by simpa [vpL]using hr⟩
theorem by_vp (A:Option Addr) (c:Nat) (L:List VP) (hl:L.length≤1048576) (hw:∀ S∈L,in64 S.who) (w:World) (hr:RdC w A 24 (vpL L)) :
 Calls Tryz.prog 202 #[.slice A L.length c,.func (.func 101) #[] #[]] w fun e w'=>e=.returned (.map (some w.heap.size))∧w'.ownsMap Tryz.prog 3 heldR w.heap.size L.length (firstV L)∧Grew w w':=by
 have hmm:=fun w=>zc5 L.length w
 have hlc:(0:Int)≤(L.length:Int):=by omega
 have hut:=Tryz.underlying69
 go_enter Tryz.func202,Tryz.ntmps202
 go_wp2_with fail
 go_loopw [16] (fun iv wr=>∃ i:Nat,i≤L.length∧iv=.int .i64 i∧wr.ownsMap Tryz.prog 3 heldR w.heap.size i (firstV (L.take i))∧Grew w wr) (fun i _=>L.length-(Go.RowKit.intOf i).toNat)
 case atStart=>exact⟨0,Nat.zero_le _,rfl,World.ownsMap_made _ _ _ _,(Below.refl _ _).alloc (Nat.le_refl _) _⟩
 case round =>
  obtain⟨i,hil,rfl,hown,hg⟩:=hrel
  by_cases hlt:i<L.length
  ·obtain⟨q,hA,hq,hm⟩:=RdC.at24v hr hg i hlt
   subst hA
   have hts:L.take (i+1)=L.take i++[L[i]]:=by rw [List.take_succ_eq_append_getElem hlt]
   have HTS:=hQ9 hts
   have HW:=hw L[i] (List.getElem_mem hlt)
   clear hts
   have hi0:(0:Int)≤(i:Int):=by omega
   have hi1:(i:Int)<(L.length:Int):=by omega
   have e4:IntKind.i64.wrap ((i:Int)+1)=(i:Int)+1:=IntWalk.i64_in _ (by omega)
   generalize L[i]=S at *
   have CW:=hQ9 (fun W=>zca S W)
   have SIS:Hid ((Tryz.prog.info? 69).map (·.size)=some S.C.toList.length):=hQ9 zH
   have SIZ:Hid ((Tryz.prog.info? 69).map (·.size)=some S.C.size):=hQ9 zH
   have HON:=hQ9 S.one
   obtain⟨w2,hw2,ht2,g2,z2⟩:=xQ wr S.C rfl
   have HW2:=hQ9 hw2
   have HT2:=hQ9 ht2
   have hm2:=z2.cell
   clear hw2 ht2
   obtain⟨k,hk⟩:∃ k,S.who=k:=⟨_,rfl⟩
   have hkr:-9223372036854775808≤k∧k≤9223372036854775807:=by rw [←hk];exact HW
   have hkey:keyOf Tryz.prog 3 (.int .i64 k)=some (.int .i64 k):=keyOf_int_mk Tryz.underlying3 (WalkArith.wf_i64 hkr)
   have HK:=hQ9 hk
   rw [hk]at CW
   clear hk
   go_wp2_with(first
    | (with_reducible refine wpList_load_mid rfl 69 (.tmp 18) rfl q (i*24) rfl S.C.toList _ hm hut rfl SIS.out ?_;simp only [Array.toArray_toList])
    | (with_reducible refine wpList_store_mid rfl 69 (.tmp 7) (.tmp 19) rfl wr.heap.size 0 S.C rfl rfl HT2.out SIZ.out HON.out ?_;rw [HW2.out])
    | (with_reducible refine wpList_load_mid rfl 69 (.tmp 7) rfl wr.heap.size 0 rfl S.C.toList _ hm2 hut rfl SIS.out ?_;simp only [Array.toArray_toList]))
   refine(CW.out w2).mono ?_
   rintro e w3 ⟨rfl,gg⟩
   have hown3:=yk hown (ze g2 gg)
   have G3:=ze hg (ze g2 gg)
   have z3:=z2.grew gg
   obtain⟨bb,hbb⟩:∃ bb,Maps.has (firstV (L.take i)) (.int .i64 k)=bb:=⟨_,rfl⟩
   clear hown hm hm2 z2 g2 gg hg HT2 HW2 CW
   cases bb
   ·have hu:(firstV (L.take i)).atKey (.int .i64 k) (.held (.agg (#[.int .i64 0,.int .u64 0,.int .i64 0,.int .i64 0,.int .i64 0,.int .u64 0,.int .u64 0,.int .u64 0,.int .u64 0,.int .u64 0,.int .u64 0,.int .u64 0,.int .u64 0,.int .u64 0,.int .u64 0,.int .u64 0,.int .u64 0,.int .u64 0,.int .u64 0,.int .u64 0,.int .u64 0,.int .u64 0,.int .u64 0,.slice none 0 0]:Array Value)))=.held (.agg (#[.int .i64 0,.int .u64 0,.int .i64 0,.int .i64 0,.int .i64 0,.int .u64 0,.int .u64 0,.int .u64 0,.int .u64 0,.int .u64 0,.int .u64 0,.int .u64 0,.int .u64 0,.int .u64 0,.int .u64 0,.int .u64 0,.int .u64 0,.int .u64 0,.int .u64 0,.int .u64 0,.int .u64 0,.int .u64 0,.int .u64 0,.slice none 0 0]:Array Value)):=Maps.atKey_of_not_has hbb _
    have HO4:Hid ((#[.int .i64 0,.int .u64 0,.int .i64 0,.int .i64 0,.int .i64 0,.int .u64 0,.int .u64 0,.int .u64 0,.int .u64 0,.int .u64 0,.int .u64 0,.int .u64 0,.int .u64 0,.int .u64 0,.int .u64 0,.int .u64 0,.int .u64 0,.int .u64 0,.int .u64 0,.int .u64 0,.int .u64 0,.int .u64 0,.int .u64 0,.slice none 0 0]:Array Value).all (·.oneCell')=true):=hQ9 (by simp [Value.oneCell'])
    obtain⟨w4,hw4,ht4,g4,z4⟩:=xQ w3 (#[.int .i64 0,.int .u64 0,.int .i64 0,.int .i64 0,.int .i64 0,.int .u64 0,.int .u64 0,.int .u64 0,.int .u64 0,.int .u64 0,.int .u64 0,.int .u64 0,.int .u64 0,.int .u64 0,.int .u64 0,.int .u64 0,.int .u64 0,.int .u64 0,.int .u64 0,.int .u64 0,.int .u64 0,.int .u64 0,.int .u64 0,.slice none 0 0]:Array Value) rfl
    have HW4:=hQ9 hw4
    have HT4:=hQ9 ht4
    have SI4:Hid ((Tryz.prog.info? 69).map (·.size)=some ((#[.int .i64 0,.int .u64 0,.int .i64 0,.int .i64 0,.int .i64 0,.int .u64 0,.int .u64 0,.int .u64 0,.int .u64 0,.int .u64 0,.int .u64 0,.int .u64 0,.int .u64 0,.int .u64 0,.int .u64 0,.int .u64 0,.int .u64 0,.int .u64 0,.int .u64 0,.int .u64 0,.int .u64 0,.int .u64 0,.int .u64 0,.slice none 0 0]:Array Value)).size):=hQ9 zH
    have hown4:=yk hown3 g4
    have hm4:=(z3.grew g4).cell
    have G4:=ze G3 g4
    clear hw4 ht4 g4 z4 z3 G3
    go_wp2_with(first
     | (at_lookup;refine yn _ rfl _ _ 313 rfl 3 69 yJ Tryz.underlying313 (qh _) w.heap.size i _ rfl hown3 _ _ rfl hkey (.agg (#[.int .i64 0,.int .u64 0,.int .i64 0,.int .i64 0,.int .i64 0,.int .u64 0,.int .u64 0,.int .u64 0,.int .u64 0,.int .u64 0,.int .u64 0,.int .u64 0,.int .u64 0,.int .u64 0,.int .u64 0,.int .u64 0,.int .u64 0,.int .u64 0,.int .u64 0,.int .u64 0,.int .u64 0,.int .u64 0,.int .u64 0,.slice none 0 0]:Array Value)) hu _ hbb ?_)
     | (with_reducible refine wpList_store_mid rfl 69 (.tmp 9) (.tmp 27) rfl w3.heap.size 0 (#[.int .i64 0,.int .u64 0,.int .i64 0,.int .i64 0,.int .i64 0,.int .u64 0,.int .u64 0,.int .u64 0,.int .u64 0,.int .u64 0,.int .u64 0,.int .u64 0,.int .u64 0,.int .u64 0,.int .u64 0,.int .u64 0,.int .u64 0,.int .u64 0,.int .u64 0,.int .u64 0,.int .u64 0,.int .u64 0,.int .u64 0,.slice none 0 0]:Array Value) rfl rfl HT4.out SI4.out HO4.out ?_;rw [HW4.out])
     | (with_reducible refine wpList_load_mid rfl 69 (.tmp 7) rfl wr.heap.size 0 rfl S.C.toList _ hm4 hut rfl SIS.out ?_;simp only [Array.toArray_toList])
     | (at_mapUpdate;refine wpList_mapUpdate_own _ rfl _ _ _ 313 rfl 3 69 yJ Tryz.underlying313 heldR w.heap.size i _ rfl hown4 (by unfold maxLen;omega) _ _ _ rfl rfl hkey (.held (.agg S.C)) [] rfl ?_;intro w5 hown5 hgrow5))
    go_roundw
    case rel=>exact⟨i+1,by omega,by go_num,by
     rw [HTS.out]
     have hf:firstV (L.take i++[S])=(firstV (L.take i)).put (.int .i64 k) (.held (.agg S.C)):=by
      have:=xc VP.who (fun S=>Value.agg S.C) (L:=L.take i) (x:=S) (by rw [HK.out];exact hbb)
      rw [HK.out]at this
      exact this
     rw [hf]
     exact hown5,G4.grown hgrow5 G4.size (fun j hj=>by cases hj;exact Nat.le_refl _)⟩
    case measure=>simp [Go.RowKit.intOf];omega
   ·obtain⟨x,hfx,hx,-⟩:=jK VP.who (L.take i) (((yc VP.who (fun S=>Value.agg S.C) (L.take i)).2.1 k).1 hbb)
    have hu:(firstV (L.take i)).atKey (.int .i64 k) (.held (.agg (#[.int .i64 0,.int .u64 0,.int .i64 0,.int .i64 0,.int .i64 0,.int .u64 0,.int .u64 0,.int .u64 0,.int .u64 0,.int .u64 0,.int .u64 0,.int .u64 0,.int .u64 0,.int .u64 0,.int .u64 0,.int .u64 0,.int .u64 0,.int .u64 0,.int .u64 0,.int .u64 0,.int .u64 0,.int .u64 0,.int .u64 0,.slice none 0 0]:Array Value)))=.held (.agg x.C):=(yc VP.who (fun S=>Value.agg S.C) (L.take i)).2.2 k x _ hfx
    have HO4:=hQ9 x.one
    clear hfx hx
    obtain⟨w4,hw4,ht4,g4,z4⟩:=xQ w3 x.C rfl
    have HW4:=hQ9 hw4
    have HT4:=hQ9 ht4
    have SI4:Hid ((Tryz.prog.info? 69).map (·.size)=some (x.C).size):=hQ9 zH
    have hown4:=yk hown3 g4
    have hm4:=(z3.grew g4).cell
    have G4:=ze G3 g4
    clear hw4 ht4 g4 z4 z3 G3
    go_wp2_with(first
     | (at_lookup;refine yn _ rfl _ _ 313 rfl 3 69 yJ Tryz.underlying313 (qh _) w.heap.size i _ rfl hown3 _ _ rfl hkey (.agg x.C) hu _ hbb ?_)
     | (with_reducible refine wpList_store_mid rfl 69 (.tmp 9) (.tmp 27) rfl w3.heap.size 0 x.C rfl rfl HT4.out SI4.out HO4.out ?_;rw [HW4.out]))
    go_roundw
    case rel=>exact⟨i+1,by omega,by go_num,by
     rw [HTS.out]
     have hf:firstV (L.take i++[S])=firstV (L.take i):=yT VP.who (fun S=>Value.agg S.C) (L:=L.take i) (x:=S) (by rw [HK.out];exact hbb)
     rw [hf]
     exact hown4.mono (by omega),G4⟩
    case measure=>simp [Go.RowKit.intOf];omega
  ·obtain rfl:i=L.length:=by omega
   rw [List.take_length]at hown
   go_wp2_with fail
   go_ret
   exact⟨rfl,hown,hg⟩
theorem xp (S:VP):Array.foldl (fun(cs:Array Value) (x:Value × Nat)=>cs.setIfInBounds x.snd x.fst) (#[.int .i64 0,.int .u64 0,.int .i64 0,.int .i64 0,.int .i64 0,.int .u64 0,.int .u64 0,.int .u64 0,.int .u64 0,.int .u64 0,.int .u64 0,.int .u64 0,.int .u64 0,.int .u64 0,.int .u64 0,.int .u64 0,.int .u64 0,.int .u64 0,.int .u64 0,.int .u64 0,.int .u64 0,.int .u64 0,.int .u64 0,.slice none 0 0]) S.C.zipIdx 0 24=S.C:=zdv _ _ _ _ _ _ _ _ _
theorem kV:(Tryz.prog.info? 69).map (fun i=>(i.zero,i.size,i.bytes))=some (some (.agg (#[.int .i64 0,.int .u64 0,.int .i64 0,.int .i64 0,.int .i64 0,.int .u64 0,.int .u64 0,.int .u64 0,.int .u64 0,.int .u64 0,.int .u64 0,.int .u64 0,.int .u64 0,.int .u64 0,.int .u64 0,.int .u64 0,.int .u64 0,.int .u64 0,.int .u64 0,.int .u64 0,.int .u64 0,.int .u64 0,.int .u64 0,.slice none 0 0]:Array Value)),24,208):=by kernel_rfl
theorem yK (L:List VP) (S:VP):(vpL (L++[S])).flatten=(vpL L).flatten++S.C.toList:=by rw [ze3,List.flatten_append];simp [vpL]
theorem xi {w:World} {base n:Nat} {e:TypeId} {v:Value} {L:List VP} (h:w.ownsRow base e 24 v n (vpL L).flatten) (hn:L.length=n) :
 ∃ A c,v=.slice A n c∧RdC w A 24 (vpL L)∧n≤c∧c≤maxLen∧∀ ad,A=some ad→base≤ad.block∧ad.block<w.heap.size:=zab h (vpL_z L) (by decide) (by rw [zaf];exact hn)
theorem zky {K:KP} (hK:K.ok) (A:Option Addr) (c:Nat) (L:List VP) (hl:L.length≤100000) (u:Int) (d bu bd bk:Nat) (w:World) (hs:Std w) (hk:K.at w) (hL:Vps w A L) (hu:w.cell? ⟨bu,0,none⟩=some (.int .i64 u)) (hd:w.cell? ⟨bd,0,none⟩=some (.int .u64 (d:Nat))) (hkc:Ag w bk K.C.toList) :
 Calls Tryz.prog 154 #[.slice A L.length c,.func (.func 101) #[] #[],.func (.func 102) #[] #[.pointer (some ⟨bu,0,none⟩),.pointer (some ⟨bd,0,none⟩),.pointer (some ⟨bk,0,none⟩)]] w fun e w' =>
  ∃ B c',e=.returned (.slice B (eachL VP.who (L.filter (vgB K u d))).length c')∧Vps w' B (eachL VP.who (L.filter (vgB K u d)))∧(eachL VP.who (L.filter (vgB K u d))).length≤c'∧c'≤maxLen∧Grew w w':=by
 obtain⟨i0,hi,hz0,hz1,hz2⟩:=info_parts kV
 have hut:=Tryz.underlying69
 obtain⟨p,hp⟩:∃ p,vgB K u d=p:=⟨_,rfl⟩
 have CM:=hQ9 (fun S (hS:S∈L) W (g:Grew w W)=>mk1_vp hK (hL.ok S hS) u d bu bd bk W (hs.grew g) (hk.gr g) ((hL.at_ S hS).gr g) (yb hu g) (yb hd g) (hkc.grew g))
 rw [hp]at CM ⊢
 have HL:=hQ9 hL
 obtain⟨F,hF⟩:∃ F,L.filter p=F:=⟨_,rfl⟩
 rw [hF]
 have HFF:=hQ9 hF
 have hFL:∀ S∈F,S∈L:=fun S hS=>by rw [←hF]at hS;exact(List.mem_filter.1 hS).1
 have hFl:F.length≤100000:=by rw [←hF];exact Nat.le_trans (List.length_filter_le _ _) hl
 clear hF
 have HFL:=hQ9 hFL
 have HFW:Hid (∀ S∈F,in64 S.who):=hQ9 (fun S hS=>(HL.out.ok S (hFL S hS)).who)
 clear hFL
 obtain⟨ks,hks⟩:∃ ks,eachK VP.who F=ks:=⟨_,rfl⟩
 obtain⟨E,hE⟩:∃ E,eachL VP.who F=E:=⟨_,rfl⟩
 have hEl:E.length=ks.length:=by rw [←hE,←hks];exact yG _ _
 have HKF:Hid (ks.length≤F.length):=hQ9 (by rw [←hks];exact xN _ _)
 have HSZ:Hid (Maps.size (firstV F)=ks.length):=hQ9 (by rw [←hks];exact xX _ _ _)
 have HGET:Hid (∀ j (hj:j<ks.length) (hj':j<E.length),F.find? (fun x=>decide (VP.who x=ks[j]))=some E[j]):=hQ9 (by subst hE;subst hks;exact fun j hj hj'=>kL VP.who F j hj hj')
 have HK64:Hid (∀ k∈ks,in64 k):=hQ9 (fun k hk=>by
  rw [←hks,xR]at hk
  obtain⟨x,hx,rfl⟩:=hk
  exact HFW.out x hx)
 have HEM:Hid (∀ S∈E,S∈F):=hQ9 (by rw [←hE];exact kK _ _)
 have HOF:Hid (∀ {ss:List Int},ss.Perm (intKeys (firstV F))→ss.mergeSort leI=ks):=hQ9 (by rw [←hks];exact fun h=>zbi _ _ _ h)
 rw [hE]
 have HEL:=hQ9 hEl
 clear hE hks hEl
 have hr:=hL.rd
 clear hk hu hd hkc hs hL hp
 go_enter Tryz.func154,Tryz.ntmps154
 go_wp2_with fail
 go_loopw [7,16] (fun fv iv wr=>∃ i:Nat,i≤L.length∧iv=.int .i64 i∧wr.ownsRow w.heap.size 69 24 fv ((L.take i).filter p).length (vpL ((L.take i).filter p)).flatten∧Grew w wr) (fun _ i _=>L.length-(Go.RowKit.intOf i).toNat)
 case atStart=>exact⟨0,Nat.zero_le _,rfl,World.ownsRow_nil _ _ _ _,Below.refl _ _⟩
 case round =>
  obtain⟨i,hil,rfl,hrow,hg⟩:=hrel
  by_cases hlt:i<L.length
  ·obtain⟨q,hA,hq,hm⟩:=RdC.at24v hr hg i hlt
   subst hA
   have hts:L.take (i+1)=L.take i++[L[i]]:=by rw [List.take_succ_eq_append_getElem hlt]
   have HTS:=hQ9 hts
   have CMi:=fun W g=>CM.out L[i] (List.getElem_mem hlt) W g
   clear hts
   have hi0:(0:Int)≤(i:Int):=by omega
   have hi1:(i:Int)<(L.length:Int):=by omega
   have e4:IntKind.i64.wrap ((i:Int)+1)=(i:Int)+1:=IntWalk.i64_in _ (by omega)
   generalize L[i]=S at *
   have CMI:=hQ9 CMi
   have SIS:Hid ((Tryz.prog.info? 69).map (·.size)=some S.C.toList.length):=hQ9 zH
   have SIZ:Hid ((Tryz.prog.info? 69).map (·.size)=some S.C.size):=hQ9 zH
   have HON:=hQ9 S.one
   obtain⟨w2,hw2,ht2,g2,z2⟩:=xQ wr S.C rfl
   have HW2:=hQ9 hw2
   have HT2:=hQ9 ht2
   have hm2:=z2.cell
   have hfl:((L.take i).filter p).length≤i:=by have:=List.length_filter_le p (L.take i);rw [List.length_take]at this;omega
   clear hw2 ht2 CMi
   obtain⟨F,hF⟩:∃ F,(L.take i).filter p=F:=⟨_,rfl⟩
   rw [hF]at hrow hfl
   have HF:=hQ9 hF
   clear hF
   go_wp2_with(first
    | (with_reducible refine wpList_load_mid rfl 69 (.tmp 18) rfl q (i*24) rfl S.C.toList _ hm hut rfl SIS.out ?_;simp only [Array.toArray_toList])
    | (with_reducible refine wpList_store_mid rfl 69 (.tmp 9) (.tmp 19) rfl wr.heap.size 0 S.C rfl rfl HT2.out SIZ.out HON.out ?_;rw [HW2.out])
    | (with_reducible refine wpList_load_mid rfl 69 (.tmp 9) rfl wr.heap.size 0 rfl S.C.toList _ hm2 hut rfl SIS.out ?_;simp only [Array.toArray_toList]))
   refine(CMI.out w2 (ze hg g2)).mono ?_
   rintro e w3 ⟨rfl,gg⟩
   have G3:=ze hg (ze g2 gg)
   have hrow3:=zx (S:=fun _=>False) hrow (zj (ze g2 gg)) (fun g _ h=>h)
   have hm3:=(z2.grew gg).cell
   have hsz3:=G3.size
   have hsz:S.C.size=24:=rfl
   obtain⟨bb,hbb⟩:∃ bb,p S=bb:=⟨_,rfl⟩
   rw [hbb]
   have HBB:=hQ9 hbb
   clear hrow hm hm2 z2 g2 gg hg HT2 HW2 CMI hbb
   cases bb
   ·go_wp2_with fail
    go_roundw
    case rel=>exact⟨i+1,by omega,by go_num,by rw [HTS.out,List.filter_append,HF.out,List.filter_cons,HBB.out];simpa using hrow3,G3⟩
    case measure=>simp [Go.RowKit.intOf];omega
   ·go_wp2_with(first
     | (with_reducible refine wpList_load_mid rfl 69 (.tmp 9) rfl wr.heap.size 0 rfl S.C.toList _ hm3 hut rfl SIS.out ?_;simp only [Array.toArray_toList])
     | (at_builtin;rw [xp];refine wpList_append_own _ rfl (.tmp 23) (.tmp 25) 36 rfl w.heap.size 69 i0 (.agg (#[.int .i64 0,.int .u64 0,.int .i64 0,.int .i64 0,.int .i64 0,.int .u64 0,.int .u64 0,.int .u64 0,.int .u64 0,.int .u64 0,.int .u64 0,.int .u64 0,.int .u64 0,.int .u64 0,.int .u64 0,.int .u64 0,.int .u64 0,.int .u64 0,.int .u64 0,.int .u64 0,.int .u64 0,.int .u64 0,.int .u64 0,.slice none 0 0]:Array Value)) 24 208 Tryz.underlying36 hi hz0 hz1 hz2 rfl (by decide) _ _ _ rfl (hrow3.alloc _) ⟨w3.heap.size,0,none⟩ 1 1 S.C.toList rfl rfl (fun j u hj=>yd w3 S.C 69 j u hj) S.one' (by unfold maxLen;omega) (by omega) (by simp;omega) ?_;intro v' w5 hown5 hgrow5 _))
    go_roundw
    case rel=>exact⟨i+1,by omega,by go_num,by
     rw [HTS.out,List.filter_append,HF.out,List.filter_cons,HBB.out]
     simp only [if_true,List.filter_nil]
     rw [yK,List.length_append]
     exact hown5,(zg G3 _).grown hgrow5 (by simp;omega) (zA hrow3)⟩
    case measure=>simp [Go.RowKit.intOf];omega
  ·obtain rfl:i=L.length:=by omega
   rw [List.take_length]at hrow
   rw [HFF.out]at hrow
   clear hil
   obtain⟨FA,fc,rfl,hFr,hfc,hfm,hfb⟩:=xi hrow rfl
   have CB:=hQ9 (by_vp FA fc F (by omega) HFW.out wr hFr)
   clear hrow hFr hfb
   go_wp2_with fail
   refine(CB.out).mono ?_
   rintro e w1 ⟨rfl,hown1,g1⟩
   have G1:=ze hg g1
   have hwr:wr.heap.size<w1.heap.size:=hown1.lt
   have hszG:=G1.size
   have hkF:=HKF.out
   have hsize:=HSZ.out
   clear hg g1 CB
   obtain⟨w2,hmk,hown2,hgrow2⟩:=run_make_own (P:=Tryz.prog) w1 w1.heap.size 36 69 i0 (.agg (#[.int .i64 0,.int .u64 0,.int .i64 0,.int .i64 0,.int .i64 0,.int .u64 0,.int .u64 0,.int .u64 0,.int .u64 0,.int .u64 0,.int .u64 0,.int .u64 0,.int .u64 0,.int .u64 0,.int .u64 0,.int .u64 0,.int .u64 0,.int .u64 0,.int .u64 0,.int .u64 0,.int .u64 0,.int .u64 0,.int .u64 0,.slice none 0 0]:Array Value)) 24 Tryz.underlying36 hi hz0 hz1 .i64 .i64 ks.length (by rw [hz2];omega) (by unfold maxLen;omega) (Nat.le_refl _)
   have g2:Grew w1 w2:=(Below.refl _ w1).grown hgrow2 (Nat.le_refl _) (fun j hj=>by cases hj)
   clear hgrow2
   have hownM2:=yk hown1 g2
   go_wp2_with(with_reducible refine wpList_len_own _ rfl (.tmp 31) 313 rfl 3 69 Tryz.underlying313 heldR wr.heap.size F.length _ rfl hown1 ?_;rw [hsize])
   clear hmk
   refine(zbf (some wr.heap.size) w2).mono ?_
   rintro e w3 ⟨rfl,hw3⟩
   have CSK:=qJ wr.heap.size F.length (firstV F) heldR w2 hownM2 (by rw [hsize];unfold maxLen;omega) (by rw [hsize];omega)
   rw [←hw3]at CSK
   have g3:Grew w2 w3:=by rw [hw3];exact zg (zc _) _
   have G13:=ze g2 g3
   have hw13:w1.heap.size<w3.heap.size:=by have:=g2.size;rw [hw3,zl];omega
   have hown3:=zx (S:=fun _=>False) hown2 (zj g3) (fun g _ h=>h)
   have HSK:=hQ9 CSK
   clear CSK hw3 hownM2 hown2 g2 g3
   go_wp2_with fail
   refine(HSK.out).mono ?_
   rintro e w4 ⟨v,ss,rfl,hperm,hrow4,hnil,g4⟩
   have hms:ss.mergeSort leI=ks:=HOF.out hperm
   have hssl:ss.length=ks.length:=by rw [←hms,List.length_mergeSort]
   have hrow4':w4.ownsRow w3.heap.size 3 1 v ks.length (i64L ks):=by
    rw [←hssl,←hms];exact hrow4
   obtain⟨KA,kc,rfl,hKr,hkc,hKb⟩:=xK hrow4'
   have g34:Grew w3 w4:=g4
   have HKB:Hid (∀ ad,KA=some ad→w3.heap.size≤ad.block∧ad.block<w4.heap.size):=hQ9 hKb
   have G14:=ze G13 g34
   have hown4:=zx (S:=fun _=>False) hown3 (zj g34) (fun g _ h=>h)
   have hw34:=g34.size
   clear HSK hrow4 hrow4' hnil hperm hms hssl hown3 g4 g34 G13 HOF hsize hKb
   have hEl0:E.length=ks.length:=HEL.out
   go_wp2_with fail
   generalize wr.heap.size=bM at *
   go_loopw [11,38] (fun rv iv wq=>∃ i:Nat,i≤ks.length∧iv=.int .i64 i∧wq.ownsRow w1.heap.size 69 24 rv i (vpL (E.take i)).flatten∧Grew w1 wq∧w4.heap.size≤wq.heap.size∧Rd wq wq.heap.size KA (i64L ks)∧(∀ g,rv.ownBlock=some g→g<w3.heap.size∨w4.heap.size≤g)) (fun _ i _=>ks.length-(Go.RowKit.intOf i).toNat)
   case atStart=>exact⟨0,Nat.zero_le _,rfl,by simpa [vpL]using hown4,G14,Nat.le_refl _,hKr,fun g h=>by simp [Value.ownBlock]at h;omega⟩
   case round =>
    obtain⟨i,hil,rfl,hrow,hg,hsz4,hKR,hob⟩:=hrel
    by_cases hlt:i<ks.length
    ·obtain⟨ad,hKA,hbl,hc0⟩:=zfz (l:=ks) hKR i hlt
     subst hKA
     have hiE:i<E.length:=by omega
     have hts:E.take (i+1)=E.take i++[E[i]]:=by rw [List.take_succ_eq_append_getElem hiE]
     have HTS:=hQ9 hts
     have hfx:=HGET.out i hlt hiE
     have hk64:=HK64.out _ (List.getElem_mem hlt)
     have HI0:Hid ((0:Int)≤(i:Int)∧(i:Int)<(ks.length:Int)):=hQ9 ⟨by omega,by omega⟩
     have hi0:=HI0.out.1
     have hi1:=HI0.out.2
     have e4:IntKind.i64.wrap ((i:Int)+1)=(i:Int)+1:=IntWalk.i64_in _ (by omega)
     generalize E[i]=S at *
     generalize ks[i]=k at *
     have hkey:keyOf Tryz.prog 3 (.int .i64 k)=some (.int .i64 k):=keyOf_int_mk Tryz.underlying3 (WalkArith.wf_i64 hk64)
     have hu:(firstV F).atKey (.int .i64 k) (.held (.agg (#[.int .i64 0,.int .u64 0,.int .i64 0,.int .i64 0,.int .i64 0,.int .u64 0,.int .u64 0,.int .u64 0,.int .u64 0,.int .u64 0,.int .u64 0,.int .u64 0,.int .u64 0,.int .u64 0,.int .u64 0,.int .u64 0,.int .u64 0,.int .u64 0,.int .u64 0,.int .u64 0,.int .u64 0,.int .u64 0,.int .u64 0,.slice none 0 0]:Array Value)))=.held (.agg S.C):=(yc VP.who (fun S=>Value.agg S.C) F).2.2 k S _ hfx
     have hownM:=yk hown1 hg
     have hsz:S.C.size=24:=rfl
     have hszq:=hg.size
     clear hts hfx hk64
     go_wp2_with(first
      | (at_lookup;refine xz _ rfl _ _ 313 rfl 3 69 yJ Tryz.underlying313 (qh _) bM F.length _ rfl hownM _ _ rfl hkey (.agg S.C) hu ?_)
      | (at_builtin;rw [xp];refine zK _ rfl (.tmp 42) (.tmp 46) 36 rfl w1.heap.size 69 i0 (.agg (#[.int .i64 0,.int .u64 0,.int .i64 0,.int .i64 0,.int .i64 0,.int .u64 0,.int .u64 0,.int .u64 0,.int .u64 0,.int .u64 0,.int .u64 0,.int .u64 0,.int .u64 0,.int .u64 0,.int .u64 0,.int .u64 0,.int .u64 0,.int .u64 0,.int .u64 0,.int .u64 0,.int .u64 0,.int .u64 0,.int .u64 0,.slice none 0 0]:Array Value)) 24 208 Tryz.underlying36 hi hz0 hz1 hz2 rfl (by decide) _ _ _ rfl (hrow.alloc _) ⟨wr.heap.size,0,none⟩ 1 1 S.C.toList rfl rfl (fun j u hj=>yd wr S.C 69 j u hj) S.one' (by unfold maxLen;omega) (by omega) (by simp;omega) ?_;intro v' w5 hown5 hgrow5 hob5))
     go_roundw
     case rel=>exact⟨i+1,by omega,by go_num,by
      rw [HTS.out,yK]
      exact hown5,(zg hg _).grown hgrow5 (by simp;omega) (zA hrow),(by have:=hgrow5.size;simp at this;omega),
      kD (hKR.gr (zg (zc wr) _)) hgrow5 (fun ad e h=>by
       have h1:=hob _ h
       have h2:=HKB.out ad e
       omega),(fun g h=>by
       rcases hob5 with h3 | h3
       ·exact hob g (h3▸h)
       ·rw [h3]at h;injection h with h;simp at h;omega)⟩
     case measure=>simp [Go.RowKit.intOf];omega
    ·obtain rfl:i=ks.length:=by omega
     rw [←hEl0,List.take_length]at hrow
     obtain⟨B,c',rfl,hB,hc1,hc2,hbB⟩:=xi hrow rfl
     have GG:=ze G1 hg
     go_wp2_with fail
     go_ret
     exact⟨B,c',by rw [hEl0];rfl,⟨hB,fun S hS=>HL.out.ok S (HFL.out S (HEM.out S hS)),fun S hS=>(HL.out.at_ S (HFL.out S (HEM.out S hS))).gr GG⟩,hc1,hc2,GG⟩
end Go.Proofs.YtidjnnnigcmdpaaGreatDoor
namespace Go.Proofs.YtidjnnnigcmdpaaGreatDoor
open Go.RowKit
noncomputable def chosenV (K:KP) (u:Int) (d:Nat) (L:List VP):List VP:=(eachL VP.who (L.filter (vgB K u d))).take (2*K.f+1).toNat
noncomputable def enoughV (K:KP) (u:Int) (d:Nat) (L:List VP):Bool:=decide ((2*K.f+1).toNat≤(eachL VP.who (L.filter (vgB K u d))).length)
theorem zcb {K:KP} (hK:K.ok) (A:Option Addr) (c:Nat) (L:List VP) (hl:L.length≤100000) (u:Int) (d bu bd bk:Nat) (w:World) (hs:Std w) (hk:K.at w) (hL:Vps w A L) (hu:w.cell? ⟨bu,0,none⟩=some (.int .i64 u)) (hd:w.cell? ⟨bd,0,none⟩=some (.int .u64 (d:Nat))) (hkc:Ag w bk K.C.toList) (hen:enoughV K u d L=true) :
 Calls Tryz.prog 100 #[.agg #[.int .i64 K.f],.slice A L.length c,.func (.func 101) #[] #[],.func (.func 102) #[] #[.pointer (some ⟨bu,0,none⟩),.pointer (some ⟨bd,0,none⟩),.pointer (some ⟨bk,0,none⟩)]] w fun e w' =>
  ∃ B,e=.returned (.tuple #[.slice B (chosenV K u d L).length (chosenV K u d L).length,.int .i64 0])∧Vps w' B (chosenV K u d L)∧Grew w w':=by
 have huf:=Tryz.underlying46
 have HCF:Hid ((Tryz.prog.info? 46).map (·.size)=some [Value.int .i64 K.f].length):=hQ9 (by kernel_rfl)
 have hf:=hK.f
 have CQ:=hQ9 (fun W=>qq_ok K.f hf W)
 have zk:=Ag.new w 46 #[.int .i64 K.f]
 have G1:=zg (zc w) (.cells #[.int .i64 K.f] 46)
 have CE:=hQ9 (zky hK A c L hl u d bu bd bk _ (hs.grew G1) (hk.gr G1) (hL.gr G1) (yb hu G1) (yb hd G1) (hkc.grew G1))
 obtain⟨qn,hqn⟩:∃ qn:Nat,2*K.f+1=(qn:Int)∧3≤qn:=⟨(2*K.f+1).toNat,by omega,by omega⟩
 obtain⟨E,hE⟩:∃ E,eachL VP.who (L.filter (vgB K u d))=E:=⟨_,rfl⟩
 have hch:chosenV K u d L=E.take qn:=by unfold chosenV;rw [hE,hqn.1,Int.toNat_natCast]
 have hle:qn≤E.length:=by unfold enoughV at hen;rw [hE,hqn.1,Int.toNat_natCast]at hen;exact of_decide_eq_true hen
 have HCL:Hid ((E.take qn).length=qn):=hQ9 (by rw [List.length_take];omega)
 have hEl:E.length≤100000:=by
  rw [←hE,yG]
  exact Nat.le_trans (xN _ _) (Nat.le_trans (List.length_filter_le _ _) hl)
 rw [hE]at CE
 rw [hch,HCL.out]
 rw [hqn.1]at CQ
 have hq3:=hqn.2
 clear hE hch hen hqn hs hk hL hu hd hkc hK hl hf
 generalize K.f=kf at *
 go_enter Tryz.func100,Tryz.ntmps100
 go_wp2_with fail
 refine(CE.out).mono ?_
 rintro e w1 ⟨B,c',rfl,hSp,hc1,hc2,gg⟩
 have hm0:w1.rangeAt w.heap.size 0 [.int .i64 kf]:=(zk.grew gg).cell
 have G2:=ze G1 gg
 clear CE zk G1 gg
 go_wp2_with(with_reducible refine wpList_load_mid rfl 46 (.tmp 4) rfl w.heap.size 0 rfl [.int .i64 kf] _ hm0 huf rfl HCF.out ?_)
 refine(CQ.out w1).mono ?_
 rintro e w2 ⟨rfl,gg⟩
 have G3:=ze G2 gg
 have hSp2:=hSp.gr gg
 clear hm0 G2 hSp gg CQ
 have e1:decide ((qn:Int)<1)=false:=decide_eq_false (by omega)
 have e2:decide (E.length<qn)=false:=decide_eq_false (by omega)
 obtain⟨q,rfl,hq,-⟩:=hSp2.get 0 (by omega)
 have h1:(0:Int)≤(qn:Int):=by omega
 have h2:(qn:Int)≤(c':Int):=by omega
 have HT:=hQ9 (hSp2.take qn)
 clear hSp2
 go_wp2_with fail
 go_ret2
 exact⟨_,rfl,HT.out,G3⟩
end Go.Proofs.YtidjnnnigcmdpaaGreatDoor
