/- gather.Each at stamps: of those that fit the first of each, ascending. -/
import Derived.Test.YtkpnheenacchhaaGreatDoorPzz
import Derived.Laws.MakeOwn
import Derived.Test.YtkpnheenacchhaaGreatDoorPbn
import Derived.Test.YtkpnheenacchhaaGreatDoorPax
import Derived.Test.YtkpnheenacchhaaGreatDoorPbb
set_option maxHeartbeats 2000000
set_option maxRecDepth 100000
set_option linter.unusedSimpArgs false
set_option linter.unusedVariables false
namespace Go.Proofs.YtkpnheenacchhaaGreatDoor
open Go.RowKit Go.Maps
theorem xN (S:SP):Array.foldl (fun(cs:Array Value) (x:Value × Nat)=>cs.setIfInBounds x.snd x.fst) (zS24) S.C.zipIdx 0 24=S.C:=zg6 _ _ _ _ _ _ _ _ _
theorem qc:(Tryz.prog.info? 157).map (fun i=>(i.zero,i.size,i.bytes))=some (some (.agg (#[.int .u64 0,.int .i64 0,.int .i64 0,.int .i64 0,.int .i64 0,.int .u64 0,.int .u64 0,.int .u64 0,.int .u64 0,.int .u64 0,.int .u64 0,.int .u64 0,.int .u64 0,.int .u64 0,.int .u64 0,.int .u64 0,.int .u64 0,.int .u64 0,.int .u64 0,.int .u64 0,.int .u64 0,.int .u64 0,.int .u64 0,.slice none 0 0]:Array Value)),24,208):=by kernel_rfl
theorem yg (w:World) (cs:Array Value) (t:TypeId) (j:Nat) (u:Value) (h:cs.toList[j]?=some u):(w.alloc (.cells cs t)).cell? ((⟨w.heap.size,0,none⟩:Addr).add j)=some u:=by
 rw [add0]
 simpa using (Ag.new w t cs).cell j u h
theorem zX {w w':World} {b o:Nat} {v:Value} (h:w.cell? ⟨b,o,none⟩=some v) (g:Grew w w'):w'.cell? ⟨b,o,none⟩=some v:=by
 rw [←h]
 refine World.cell?_of_block (g.block _ ?_)
 rcases Nat.lt_or_ge b w.heap.size with h' | h'
 ·exact h'
 ·have:w.heap[b]?=none:=Array.getElem?_eq_none h'
  simp only [World.cell?,this]at h
  cases h
theorem xo (L:List SP) (S:SP):(spL (L++[S])).flatten=(spL L).flatten++S.C.toList:=by rw [zim,List.flatten_append];simp [spL]
theorem xO {w:World} {base n:Nat} {e:TypeId} {v:Value} {L:List SP} (h:w.ownsRow base e 24 v n (spL L).flatten) (hn:L.length=n) :
 ∃ A c,v=.slice A n c∧RdC w A 24 (spL L)∧n≤c∧c≤maxLen∧∀ ad,A=some ad→base≤ad.block∧ad.block<w.heap.size:=zg1 h (spL_z L) (by decide) (by rw [zbt];exact hn)
theorem zO {P:Program} (w:World) {ops:Array Oper} {rest:List Oper} {o:Oper} {a:Act} {Q:Exit→Act→World→Prop} (hgd:o.guard=none) (s x:Operand) (t:TypeId)
 (ho:o.op=.call { callee:=.builtin .append,args:=#[s,x],argTypes:=#[t,t] })
 (base:Nat) (e:TypeId) (i:TypeInfo) (z:Value) (size bytes:Nat) (ht:P.underlying t=some (.slice e)) (hi:P.info? e=some i) (hz:i.zero=some z)
 (hsize:i.size=size) (hby:i.bytes=bytes) (hzs:z.cells.size=size) (hsz:0<size)
 (v:Value) (n:Nat) (xs:List Value) (hs:a.eval s=v) (hown:w.ownsRow base e size v n xs)
 (ad:Addr) (m c:Nat) (news:List Value) (hx:a.eval x=.slice (some ad) m c) (hl:news.length=m*size) (hnews:∀ j u,news[j]?=some u→w.cell? (ad.add j)=some u) (h1:∀ u∈news,u.oneCell'=true)
 (h63:n+m≤maxLen) (hbytes:(n+m)*bytes≤140737488355328) (hbase:base≤w.heap.size)
 (h:∀ v' w',w'.ownsRow base e size v' (n+m) (xs++news)→w.grownBy w' v.ownBlock→(v'.ownBlock=v.ownBlock∨v'.ownBlock=some w.heap.size)→wpList P ops Q rest (a.put o.dst v') w'):wpList P ops Q (o::rest) a w :=
 wpList_plain hgd fun _ hK=>by
  obtain⟨v',w',hrun,h2,h3,_,h4⟩:=run_append_own_at (P:=P) w base t o.type e i z size bytes ht hi hz hsize hby hzs hsz v n xs hown ad m c news hl hnews h1 h63 hbytes hbase
  unfold Oper.wp execOp
  simp only [ho,resolve,invoke,builtin,Sem.run_bind,Sem.run_pure,Result.andThen_ok,List.map_toArray,List.map_cons,List.map_nil,hs,hx,hrun]
  exact hK _ _ (h v' w' h2 h3 h4)
theorem zby {w:World} {base n:Nat} {e:TypeId} {v:Value} {xs:List Value} (h:w.ownsRow base e 1 v n xs) :
 ∃ A c,v=.slice A n c∧Rd w w.heap.size A xs∧n≤c∧∀ ad,A=some ad→base≤ad.block∧ad.block<w.heap.size:=by
 obtain⟨A,c,rfl,hc,hl,hr⟩:=zU h
 exact⟨A,c,rfl,hr,hc,fun ad e=>by subst e;exact zN h ad.block rfl⟩
theorem jt {w w':World} {A:Option Addr} {xs:List Value} {row:Option Nat} (h:Rd w w.heap.size A xs) (k:w.grownBy w' row) (hn:∀ ad,A=some ad→row≠some ad.block):Rd w' w'.heap.size A xs :=
 (h.kp (S:=fun j=>row=some j) (yX (zQ _ w) k (fun g hg=>.inl hg)) (zN9 _) (fun ad e _=>hn ad e)).more k.size
theorem zpk {K:KP} (hK:K.ok) (A:Option Addr) (c:Nat) (L:List SP) (hl:L.length≤100000) (d bd bk:Nat) (w:World) (hs:Std w) (hk:K.at w) (hL:Sps w A L) (hd:w.cell? ⟨bd,0,none⟩=some (.int .u64 (d:Nat))) (hkc:Ag w bk K.C.toList) :
 Calls Tryz.prog 233 #[.slice A L.length c,.func (.func 166) #[] #[],.func (.func 183) #[] #[.pointer (some ⟨bd,0,none⟩),.pointer (some ⟨bk,0,none⟩)]] w fun e w' =>
  ∃ B c',e=.returned (.slice B (eachL SP.who (L.filter (fitB K d))).length c')∧Sps w' B (eachL SP.who (L.filter (fitB K d)))∧(eachL SP.who (L.filter (fitB K d))).length≤c'∧c'≤maxLen∧Grew w w':=by
 obtain⟨i0,hi,hz0,hz1,hz2⟩:=info_parts qc
 have hut:=Tryz.underlying157
 obtain⟨p,hp⟩:∃ p,fitB K d=p:=⟨_,rfl⟩
 have CM:=hQ9 (fun S (hS:S∈L) W (g:Grew w W)=>mk1_sp hK (hL.ok S hS) d bd bk W (hs.grew g) (hk.gr g) ((hL.at_ S hS).gr g) (zX hd g) (hkc.grew g))
 rw [hp]at CM ⊢
 have HL:=hQ9 hL
 obtain⟨F,hF⟩:∃ F,L.filter p=F:=⟨_,rfl⟩
 rw [hF]
 have HFF:=hQ9 hF
 have hFL:∀ S∈F,S∈L:=fun S hS=>by rw [←hF]at hS;exact(List.mem_filter.1 hS).1
 have hFl:F.length≤100000:=by rw [←hF];exact Nat.le_trans (List.length_filter_le _ _) hl
 clear hF
 have HFL:=hQ9 hFL
 have HFW:Hid (∀ S∈F,in64 S.who):=hQ9 (fun S hS=>(HL.out.ok S (hFL S hS)).who)
 clear hFL
 obtain⟨ks,hks⟩:∃ ks,eachK SP.who F=ks:=⟨_,rfl⟩
 obtain⟨E,hE⟩:∃ E,eachL SP.who F=E:=⟨_,rfl⟩
 have hEl:E.length=ks.length:=by rw [←hE,←hks];exact yE _ _
 have HKF:Hid (ks.length≤F.length):=hQ9 (by rw [←hks];exact xl _ _)
 have HSZ:Hid (Maps.size (firstS F)=ks.length):=hQ9 (by rw [←hks];exact kP _ _ _)
 have HGET:Hid (∀ j (hj:j<ks.length) (hj':j<E.length),F.find? (fun x=>decide (SP.who x=ks[j]))=some E[j]):=hQ9 (by subst hE;subst hks;exact fun j hj hj'=>zb8 SP.who F j hj hj')
 have HK64:Hid (∀ k∈ks,in64 k):=hQ9 (fun k hk=>by
  rw [←hks,kH]at hk
  obtain⟨x,hx,rfl⟩:=hk
  exact HFW.out x hx)
 have HEM:Hid (∀ S∈E,S∈F):=hQ9 (by rw [←hE];exact kI _ _)
 have HOF:Hid (∀ {ss:List Int},ss.Perm (intKeys (firstS F))→ss.mergeSort leI=ks):=hQ9 (by rw [←hks];exact fun h=>zdm _ _ _ h)
 rw [hE]
 have HEL:=hQ9 hEl
 clear hE hks hEl
 have hr:=hL.rd
 clear hk hd hkc hs hL hp
 go_enter Tryz.func233,Tryz.ntmps233
 go_wp2_with fail
 go_loopw [7,16] (fun fv iv wr=>∃ i:Nat,i≤L.length∧iv=.int .i64 i∧wr.ownsRow w.heap.size 157 24 fv ((L.take i).filter p).length (spL ((L.take i).filter p)).flatten∧Grew w wr) (fun _ i _=>L.length-(Go.RowKit.intOf i).toNat)
 case atStart=>exact⟨0,Nat.zero_le _,rfl,World.ownsRow_nil _ _ _ _,Below.refl _ _⟩
 case round =>
  obtain⟨i,hil,rfl,hrow,hg⟩:=hrel
  by_cases hlt:i<L.length
  ·obtain⟨q,hA,hq,hm⟩:=RdC.at24 hr hg i hlt
   subst hA
   have hts:L.take (i+1)=L.take i++[L[i]]:=by rw [List.take_succ_eq_append_getElem hlt]
   have HTS:=hQ9 hts
   have CMi:=fun W g=>CM.out L[i] (List.getElem_mem hlt) W g
   clear hts
   have hi0:(0:Int)≤(i:Int):=by omega
   have hi1:(i:Int)<(L.length:Int):=by omega
   have e4:IntKind.i64.wrap ((i:Int)+1)=(i:Int)+1:=IntWalk.i64_in _ (by omega)
   generalize L[i]=S at *
   have CMI:=hQ9 CMi
   have SIS:Hid (zI9 157=some S.C.toList.length):=hQ9 zK
   have SIZ:Hid (zI9 157=some S.C.size):=hQ9 zK
   have HON:=hQ9 S.one
   obtain⟨w2,hw2,ht2,g2,z2⟩:=x9 wr S.C rfl
   have HW2:=hQ9 hw2
   have HT2:=hQ9 ht2
   have hm2:=z2.cell
   have hfl:((L.take i).filter p).length≤i:=by have:=List.length_filter_le p (L.take i);rw [List.length_take]at this;omega
   clear hw2 ht2 CMi
   obtain⟨F,hF⟩:∃ F,(L.take i).filter p=F:=⟨_,rfl⟩
   rw [hF]at hrow hfl
   have HF:=hQ9 hF
   clear hF
   go_wp2_with(first
    | (with_reducible refine wpList_load_mid rfl 157 (.tmp 18) rfl q (i*24) rfl S.C.toList _ hm hut rfl SIS.out ?_;simp only [zT9])
    | (with_reducible refine wpList_store_mid rfl 157 (.tmp 9) (.tmp 19) rfl wr.heap.size 0 S.C rfl rfl HT2.out SIZ.out HON.out ?_;rw [HW2.out])
    | (with_reducible refine wpList_load_mid rfl 157 (.tmp 9) rfl wr.heap.size 0 rfl S.C.toList _ hm2 hut rfl SIS.out ?_;simp only [zT9]))
   refine(CMI.out w2 (zb hg g2)).mono ?_
   rintro e w3 ⟨rfl,gg⟩
   have G3:=zb hg (zb g2 gg)
   have hrow3:=zo (S:=fun _=>False) hrow (zF (zb g2 gg)) (fun g _ h=>h)
   have hm3:=(z2.grew gg).cell
   have hsz3:=G3.size
   have hsz:S.C.size=24:=rfl
   obtain⟨bb,hbb⟩:∃ bb,p S=bb:=⟨_,rfl⟩
   rw [hbb]
   have HBB:=hQ9 hbb
   clear hrow hm hm2 z2 g2 gg hg HT2 HW2 CMI hbb
   cases bb
   ·go_wp2_with fail
    go_roundw
    case rel=>exact⟨i+1,by omega,by go_num,by rw [HTS.out,List.filter_append,HF.out,List.filter_cons,HBB.out];simpa using hrow3,G3⟩
    case measure=>simp [Go.RowKit.intOf];omega
   ·go_wp2_with(first
     | (with_reducible refine wpList_load_mid rfl 157 (.tmp 9) rfl wr.heap.size 0 rfl S.C.toList _ hm3 hut rfl SIS.out ?_;simp only [zT9])
     | (at_builtin;rw [xN];refine wpList_append_own _ rfl (.tmp 23) (.tmp 25) 41 rfl w.heap.size 157 i0 (.agg (#[.int .u64 0,.int .i64 0,.int .i64 0,.int .i64 0,.int .i64 0,.int .u64 0,.int .u64 0,.int .u64 0,.int .u64 0,.int .u64 0,.int .u64 0,.int .u64 0,.int .u64 0,.int .u64 0,.int .u64 0,.int .u64 0,.int .u64 0,.int .u64 0,.int .u64 0,.int .u64 0,.int .u64 0,.int .u64 0,.int .u64 0,.slice none 0 0]:Array Value)) 24 208 Tryz.underlying41 hi hz0 hz1 hz2 rfl (by decide) _ _ _ rfl (hrow3.alloc _) ⟨w3.heap.size,0,none⟩ 1 1 S.C.toList rfl rfl (fun j u hj=>yg w3 S.C 157 j u hj) S.one' (by unfold maxLen;omega) (by omega) (by simp;omega) ?_;intro v' w5 hown5 hgrow5 _))
    go_roundw
    case rel=>exact⟨i+1,by omega,by go_num,by
     rw [HTS.out,List.filter_append,HF.out,List.filter_cons,HBB.out]
     simp only [if_true,List.filter_nil]
     rw [xo,List.length_append]
     exact hown5,(ze G3 _).grown hgrow5 (by simp;omega) (zu hrow3)⟩
    case measure=>simp [Go.RowKit.intOf];omega
  ·obtain rfl:i=L.length:=by omega
   rw [List.take_length]at hrow
   rw [HFF.out]at hrow
   clear hil
   obtain⟨FA,fc,rfl,hFr,hfc,hfm,hfb⟩:=xO hrow rfl
   have CB:=hQ9 (by_sp FA fc F (by omega) HFW.out wr hFr)
   clear hrow hFr hfb
   go_wp2_with fail
   refine(CB.out).mono ?_
   rintro e w1 ⟨rfl,hown1,g1⟩
   have G1:=zb hg g1
   have hwr:wr.heap.size<w1.heap.size:=hown1.lt
   have hszG:=G1.size
   have hkF:=HKF.out
   have hsize:=HSZ.out
   clear hg g1 CB
   obtain⟨w2,hmk,hown2,hgrow2⟩:=run_make_own (P:=Tryz.prog) w1 w1.heap.size 41 157 i0 (.agg (zS24:Array Value)) 24 Tryz.underlying41 hi hz0 hz1 .i64 .i64 ks.length (by rw [hz2];omega) (by unfold maxLen;omega) (zN9 _)
   have g2:Grew w1 w2:=(Below.refl _ w1).grown hgrow2 (zN9 _) (fun j hj=>by cases hj)
   clear hgrow2
   have hownM2:=yu hown1 g2
   go_wp2_with(with_reducible refine wpList_len_own _ rfl (.tmp 31) 379 rfl 3 157 Tryz.underlying379 heldR wr.heap.size F.length _ rfl hown1 ?_;rw [hsize])
   clear hmk
   refine(zbo (some wr.heap.size) w2).mono ?_
   rintro e w3 ⟨rfl,hw3⟩
   have CSK:=zae wr.heap.size F.length (firstS F) heldR w2 hownM2 (by rw [hsize];unfold maxLen;omega) (by rw [hsize];omega)
   rw [←hw3]at CSK
   have g3:Grew w2 w3:=by rw [hw3];exact ze (za _) _
   have G13:=zb g2 g3
   have hw13:w1.heap.size<w3.heap.size:=by have:=g2.size;rw [hw3,zl];omega
   have hown3:=zo (S:=fun _=>False) hown2 (zF g3) (fun g _ h=>h)
   have HSK:=hQ9 CSK
   clear CSK hw3 hownM2 hown2 g2 g3
   go_wp2_with fail
   refine(HSK.out).mono ?_
   rintro e w4 ⟨v,ss,rfl,hperm,hrow4,hnil,g4⟩
   have hms:ss.mergeSort leI=ks:=HOF.out hperm
   have hssl:ss.length=ks.length:=by rw [←hms,List.length_mergeSort]
   have hrow4':w4.ownsRow w3.heap.size 3 1 v ks.length (i64L ks):=by
    rw [←hssl,←hms];exact hrow4
   obtain⟨KA,kc,rfl,hKr,hkc,hKb⟩:=zby hrow4'
   have g34:Grew w3 w4:=g4
   have HKB:Hid (∀ ad,KA=some ad→w3.heap.size≤ad.block∧ad.block<w4.heap.size):=hQ9 hKb
   have G14:=zb G13 g34
   have hown4:=zo (S:=fun _=>False) hown3 (zF g34) (fun g _ h=>h)
   have hw34:=g34.size
   clear HSK hrow4 hrow4' hnil hperm hms hssl hown3 g4 g34 G13 HOF hsize hKb
   have hEl0:E.length=ks.length:=HEL.out
   go_wp2_with fail
   generalize wr.heap.size=bM at *
   go_loopw [11,38] (fun rv iv wq=>∃ i:Nat,i≤ks.length∧iv=.int .i64 i∧wq.ownsRow w1.heap.size 157 24 rv i (spL (E.take i)).flatten∧Grew w1 wq∧w4.heap.size≤wq.heap.size∧Rd wq wq.heap.size KA (i64L ks)∧(∀ g,rv.ownBlock=some g→g<w3.heap.size∨w4.heap.size≤g)) (fun _ i _=>ks.length-(Go.RowKit.intOf i).toNat)
   case atStart=>exact⟨0,Nat.zero_le _,rfl,by simpa [spL]using hown4,G14,zN9 _,hKr,fun g h=>by simp [Value.ownBlock]at h;omega⟩
   case round =>
    obtain⟨i,hil,rfl,hrow,hg,hsz4,hKR,hob⟩:=hrel
    by_cases hlt:i<ks.length
    ·obtain⟨ad,hKA,hbl,hc0⟩:=jV (l:=ks) hKR i hlt
     subst hKA
     have hiE:i<E.length:=by omega
     have hts:E.take (i+1)=E.take i++[E[i]]:=by rw [List.take_succ_eq_append_getElem hiE]
     have HTS:=hQ9 hts
     have hfx:=HGET.out i hlt hiE
     have hk64:=HK64.out _ (List.getElem_mem hlt)
     have HI0:Hid ((0:Int)≤(i:Int)∧(i:Int)<(ks.length:Int)):=hQ9 ⟨by omega,by omega⟩
     have hi0:=HI0.out.1
     have hi1:=HI0.out.2
     have e4:IntKind.i64.wrap ((i:Int)+1)=(i:Int)+1:=IntWalk.i64_in _ (by omega)
     generalize E[i]=S at *
     generalize ks[i]=k at *
     have hkey:keyOf Tryz.prog 3 (.int .i64 k)=some (.int .i64 k):=keyOf_int_mk Tryz.underlying3 (WalkArith.wf_i64 hk64)
     have hu:(firstS F).atKey (.int .i64 k) (.held (.agg (zS24:Array Value)))=.held (.agg S.C):=(yj SP.who (fun S=>Value.agg S.C) F).2.2 k S _ hfx
     have hownM:=yu hown1 hg
     have hsz:S.C.size=24:=rfl
     have hszq:=hg.size
     clear hts hfx hk64
     go_wp2_with(first
      | (at_lookup;refine x8 _ rfl _ _ 379 rfl 3 157 yW Tryz.underlying379 (zal _) bM F.length _ rfl hownM _ _ rfl hkey (.agg S.C) hu ?_)
      | (at_builtin;rw [xN];refine zO _ rfl (.tmp 42) (.tmp 46) 41 rfl w1.heap.size 157 i0 (.agg (#[.int .u64 0,.int .i64 0,.int .i64 0,.int .i64 0,.int .i64 0,.int .u64 0,.int .u64 0,.int .u64 0,.int .u64 0,.int .u64 0,.int .u64 0,.int .u64 0,.int .u64 0,.int .u64 0,.int .u64 0,.int .u64 0,.int .u64 0,.int .u64 0,.int .u64 0,.int .u64 0,.int .u64 0,.int .u64 0,.int .u64 0,.slice none 0 0]:Array Value)) 24 208 Tryz.underlying41 hi hz0 hz1 hz2 rfl (by decide) _ _ _ rfl (hrow.alloc _) ⟨wr.heap.size,0,none⟩ 1 1 S.C.toList rfl rfl (fun j u hj=>yg wr S.C 157 j u hj) S.one' (by unfold maxLen;omega) (by omega) (by simp;omega) ?_;intro v' w5 hown5 hgrow5 hob5))
     go_roundw
     case rel=>exact⟨i+1,by omega,by go_num,by
      rw [HTS.out,xo]
      exact hown5,(ze hg _).grown hgrow5 (by simp;omega) (zu hrow),(by have:=hgrow5.size;simp at this;omega),
      jt (hKR.gr (ze (za wr) _)) hgrow5 (fun ad e h=>by
       have h1:=hob _ h
       have h2:=HKB.out ad e
       omega),(fun g h=>by
       rcases hob5 with h3 | h3
       ·exact hob g (h3▸h)
       ·rw [h3]at h;injection h with h;simp at h;omega)⟩
     case measure=>simp [Go.RowKit.intOf];omega
    ·obtain rfl:i=ks.length:=by omega
     rw [←hEl0,List.take_length]at hrow
     obtain⟨B,c',rfl,hB,hc1,hc2,hbB⟩:=xO hrow rfl
     have GG:=zb G1 hg
     go_wp2_with fail
     go_ret
     exact⟨B,c',by rw [hEl0];rfl,⟨hB,fun S hS=>HL.out.ok S (HFL.out S (HEM.out S hS)),fun S hS=>(HL.out.at_ S (HFL.out S (HEM.out S hS))).gr GG⟩,hc1,hc2,GG⟩
theorem xP (S:AP):Array.foldl (fun(cs:Array Value) (x:Value × Nat)=>cs.setIfInBounds x.snd x.fst) (zA23) S.C.zipIdx 0 23=S.C:=zg8 _ _ _ _ _ _ _ _
theorem zbe:(Tryz.prog.info? 79).map (fun i=>(i.zero,i.size,i.bytes))=some (some (.agg (#[.int .u64 0,.int .i64 0,.int .i64 0,.int .i64 0,.int .u64 0,.int .u64 0,.int .u64 0,.int .u64 0,.int .u64 0,.int .u64 0,.int .u64 0,.int .u64 0,.int .u64 0,.int .u64 0,.int .u64 0,.int .u64 0,.int .u64 0,.int .u64 0,.int .u64 0,.int .u64 0,.int .u64 0,.int .u64 0,.slice none 0 0]:Array Value)),23,200):=by kernel_rfl
theorem xp (L:List AP) (S:AP):(apL (L++[S])).flatten=(apL L).flatten++S.C.toList:=by rw [ziw,List.flatten_append];simp [apL]
theorem y6 {w:World} {base n:Nat} {e:TypeId} {v:Value} {L:List AP} (h:w.ownsRow base e 23 v n (apL L).flatten) (hn:L.length=n) :
 ∃ A c,v=.slice A n c∧RdC w A 23 (apL L)∧n≤c∧c≤maxLen∧∀ ad,A=some ad→base≤ad.block∧ad.block<w.heap.size:=zg1 h (apL_z L) (by decide) (by rw [zbx];exact hn)
theorem zha {K:KP} (hK:K.ok) (A:Option Addr) (c:Nat) (L:List AP) (hl:L.length≤100000) (d bd bk:Nat) (w:World) (hs:Std w) (hk:K.at w) (hL:Aps w A L) (hd:w.cell? ⟨bd,0,none⟩=some (.int .u64 (d:Nat))) (hkc:Ag w bk K.C.toList) :
 Calls Tryz.prog 169 #[.slice A L.length c,.func (.func 109) #[] #[],.func (.func 110) #[] #[.pointer (some ⟨bd,0,none⟩),.pointer (some ⟨bk,0,none⟩)]] w fun e w' =>
  ∃ B c',e=.returned (.slice B (eachL AP.who (L.filter (gfB K d))).length c')∧Aps w' B (eachL AP.who (L.filter (gfB K d)))∧(eachL AP.who (L.filter (gfB K d))).length≤c'∧c'≤maxLen∧Grew w w':=by
 obtain⟨i0,hi,hz0,hz1,hz2⟩:=info_parts zbe
 have hut:=Tryz.underlying79
 obtain⟨p,hp⟩:∃ p,gfB K d=p:=⟨_,rfl⟩
 have CM:=hQ9 (fun S (hS:S∈L) W (g:Grew w W)=>mk1_ap hK (hL.ok S hS) d bd bk W (hs.grew g) (hk.gr g) ((hL.at_ S hS).gr g) (zX hd g) (hkc.grew g))
 rw [hp]at CM ⊢
 have HL:=hQ9 hL
 obtain⟨F,hF⟩:∃ F,L.filter p=F:=⟨_,rfl⟩
 rw [hF]
 have HFF:=hQ9 hF
 have hFL:∀ S∈F,S∈L:=fun S hS=>by rw [←hF]at hS;exact(List.mem_filter.1 hS).1
 have hFl:F.length≤100000:=by rw [←hF];exact Nat.le_trans (List.length_filter_le _ _) hl
 clear hF
 have HFL:=hQ9 hFL
 have HFW:Hid (∀ S∈F,in64 S.who):=hQ9 (fun S hS=>(HL.out.ok S (hFL S hS)).who)
 clear hFL
 obtain⟨ks,hks⟩:∃ ks,eachK AP.who F=ks:=⟨_,rfl⟩
 obtain⟨E,hE⟩:∃ E,eachL AP.who F=E:=⟨_,rfl⟩
 have hEl:E.length=ks.length:=by rw [←hE,←hks];exact yE _ _
 have HKF:Hid (ks.length≤F.length):=hQ9 (by rw [←hks];exact xl _ _)
 have HSZ:Hid (Maps.size (firstA F)=ks.length):=hQ9 (by rw [←hks];exact kP _ _ _)
 have HGET:Hid (∀ j (hj:j<ks.length) (hj':j<E.length),F.find? (fun x=>decide (AP.who x=ks[j]))=some E[j]):=hQ9 (by subst hE;subst hks;exact fun j hj hj'=>zb8 AP.who F j hj hj')
 have HK64:Hid (∀ k∈ks,in64 k):=hQ9 (fun k hk=>by
  rw [←hks,kH]at hk
  obtain⟨x,hx,rfl⟩:=hk
  exact HFW.out x hx)
 have HEM:Hid (∀ S∈E,S∈F):=hQ9 (by rw [←hE];exact kI _ _)
 have HOF:Hid (∀ {ss:List Int},ss.Perm (intKeys (firstA F))→ss.mergeSort leI=ks):=hQ9 (by rw [←hks];exact fun h=>zdm _ _ _ h)
 rw [hE]
 have HEL:=hQ9 hEl
 clear hE hks hEl
 have hr:=hL.rd
 clear hk hd hkc hs hL hp
 go_enter Tryz.func169,Tryz.ntmps169
 go_wp2_with fail
 go_loopw [7,16] (fun fv iv wr=>∃ i:Nat,i≤L.length∧iv=.int .i64 i∧wr.ownsRow w.heap.size 79 23 fv ((L.take i).filter p).length (apL ((L.take i).filter p)).flatten∧Grew w wr) (fun _ i _=>L.length-(Go.RowKit.intOf i).toNat)
 case atStart=>exact⟨0,Nat.zero_le _,rfl,World.ownsRow_nil _ _ _ _,Below.refl _ _⟩
 case round =>
  obtain⟨i,hil,rfl,hrow,hg⟩:=hrel
  by_cases hlt:i<L.length
  ·obtain⟨q,hA,hq,hm⟩:=RdC.at23 hr hg i hlt
   subst hA
   have hts:L.take (i+1)=L.take i++[L[i]]:=by rw [List.take_succ_eq_append_getElem hlt]
   have HTS:=hQ9 hts
   have CMi:=fun W g=>CM.out L[i] (List.getElem_mem hlt) W g
   clear hts
   have hi0:(0:Int)≤(i:Int):=by omega
   have hi1:(i:Int)<(L.length:Int):=by omega
   have e4:IntKind.i64.wrap ((i:Int)+1)=(i:Int)+1:=IntWalk.i64_in _ (by omega)
   generalize L[i]=S at *
   have CMI:=hQ9 CMi
   have SIS:Hid (zI9 79=some S.C.toList.length):=hQ9 zJ
   have SIZ:Hid (zI9 79=some S.C.size):=hQ9 zJ
   have HON:=hQ9 S.one
   obtain⟨w2,hw2,ht2,g2,z2⟩:=jg wr S.C rfl
   have HW2:=hQ9 hw2
   have HT2:=hQ9 ht2
   have hm2:=z2.cell
   have hfl:((L.take i).filter p).length≤i:=by have:=List.length_filter_le p (L.take i);rw [List.length_take]at this;omega
   clear hw2 ht2 CMi
   obtain⟨F,hF⟩:∃ F,(L.take i).filter p=F:=⟨_,rfl⟩
   rw [hF]at hrow hfl
   have HF:=hQ9 hF
   clear hF
   go_wp2_with(first
    | (with_reducible refine wpList_load_mid rfl 79 (.tmp 18) rfl q (i*23) rfl S.C.toList _ hm hut rfl SIS.out ?_;simp only [zT9])
    | (with_reducible refine wpList_store_mid rfl 79 (.tmp 9) (.tmp 19) rfl wr.heap.size 0 S.C rfl rfl HT2.out SIZ.out HON.out ?_;rw [HW2.out])
    | (with_reducible refine wpList_load_mid rfl 79 (.tmp 9) rfl wr.heap.size 0 rfl S.C.toList _ hm2 hut rfl SIS.out ?_;simp only [zT9]))
   refine(CMI.out w2 (zb hg g2)).mono ?_
   rintro e w3 ⟨rfl,gg⟩
   have G3:=zb hg (zb g2 gg)
   have hrow3:=zo (S:=fun _=>False) hrow (zF (zb g2 gg)) (fun g _ h=>h)
   have hm3:=(z2.grew gg).cell
   have hsz3:=G3.size
   have hsz:S.C.size=23:=rfl
   obtain⟨bb,hbb⟩:∃ bb,p S=bb:=⟨_,rfl⟩
   rw [hbb]
   have HBB:=hQ9 hbb
   clear hrow hm hm2 z2 g2 gg hg HT2 HW2 CMI hbb
   cases bb
   ·go_wp2_with fail
    go_roundw
    case rel=>exact⟨i+1,by omega,by go_num,by rw [HTS.out,List.filter_append,HF.out,List.filter_cons,HBB.out];simpa using hrow3,G3⟩
    case measure=>simp [Go.RowKit.intOf];omega
   ·go_wp2_with(first
     | (with_reducible refine wpList_load_mid rfl 79 (.tmp 9) rfl wr.heap.size 0 rfl S.C.toList _ hm3 hut rfl SIS.out ?_;simp only [zT9])
     | (at_builtin;rw [xP];refine wpList_append_own _ rfl (.tmp 23) (.tmp 25) 104 rfl w.heap.size 79 i0 (.agg (#[.int .u64 0,.int .i64 0,.int .i64 0,.int .i64 0,.int .u64 0,.int .u64 0,.int .u64 0,.int .u64 0,.int .u64 0,.int .u64 0,.int .u64 0,.int .u64 0,.int .u64 0,.int .u64 0,.int .u64 0,.int .u64 0,.int .u64 0,.int .u64 0,.int .u64 0,.int .u64 0,.int .u64 0,.int .u64 0,.slice none 0 0]:Array Value)) 23 200 Tryz.underlying104 hi hz0 hz1 hz2 rfl (by decide) _ _ _ rfl (hrow3.alloc _) ⟨w3.heap.size,0,none⟩ 1 1 S.C.toList rfl rfl (fun j u hj=>yg w3 S.C 79 j u hj) S.one' (by unfold maxLen;omega) (by omega) (by simp;omega) ?_;intro v' w5 hown5 hgrow5 _))
    go_roundw
    case rel=>exact⟨i+1,by omega,by go_num,by
     rw [HTS.out,List.filter_append,HF.out,List.filter_cons,HBB.out]
     simp only [if_true,List.filter_nil]
     rw [xp,List.length_append]
     exact hown5,(ze G3 _).grown hgrow5 (by simp;omega) (zu hrow3)⟩
    case measure=>simp [Go.RowKit.intOf];omega
  ·obtain rfl:i=L.length:=by omega
   rw [List.take_length]at hrow
   rw [HFF.out]at hrow
   clear hil
   obtain⟨FA,fc,rfl,hFr,hfc,hfm,hfb⟩:=y6 hrow rfl
   have CB:=hQ9 (by_ap FA fc F (by omega) HFW.out wr hFr)
   clear hrow hFr hfb
   go_wp2_with fail
   refine(CB.out).mono ?_
   rintro e w1 ⟨rfl,hown1,g1⟩
   have G1:=zb hg g1
   have hwr:wr.heap.size<w1.heap.size:=hown1.lt
   have hszG:=G1.size
   have hkF:=HKF.out
   have hsize:=HSZ.out
   clear hg g1 CB
   obtain⟨w2,hmk,hown2,hgrow2⟩:=run_make_own (P:=Tryz.prog) w1 w1.heap.size 104 79 i0 (.agg (zA23:Array Value)) 23 Tryz.underlying104 hi hz0 hz1 .i64 .i64 ks.length (by rw [hz2];omega) (by unfold maxLen;omega) (zN9 _)
   have g2:Grew w1 w2:=(Below.refl _ w1).grown hgrow2 (zN9 _) (fun j hj=>by cases hj)
   clear hgrow2
   have hownM2:=yu hown1 g2
   go_wp2_with(with_reducible refine wpList_len_own _ rfl (.tmp 31) 325 rfl 3 79 Tryz.underlying325 heldR wr.heap.size F.length _ rfl hown1 ?_;rw [hsize])
   clear hmk
   refine(zd8 (some wr.heap.size) w2).mono ?_
   rintro e w3 ⟨rfl,hw3⟩
   have CSK:=zbn wr.heap.size F.length (firstA F) heldR w2 hownM2 (by rw [hsize];unfold maxLen;omega) (by rw [hsize];omega)
   rw [←hw3]at CSK
   have g3:Grew w2 w3:=by rw [hw3];exact ze (za _) _
   have G13:=zb g2 g3
   have hw13:w1.heap.size<w3.heap.size:=by have:=g2.size;rw [hw3,zl];omega
   have hown3:=zo (S:=fun _=>False) hown2 (zF g3) (fun g _ h=>h)
   have HSK:=hQ9 CSK
   clear CSK hw3 hownM2 hown2 g2 g3
   go_wp2_with fail
   refine(HSK.out).mono ?_
   rintro e w4 ⟨v,ss,rfl,hperm,hrow4,hnil,g4⟩
   have hms:ss.mergeSort leI=ks:=HOF.out hperm
   have hssl:ss.length=ks.length:=by rw [←hms,List.length_mergeSort]
   have hrow4':w4.ownsRow w3.heap.size 3 1 v ks.length (i64L ks):=by
    rw [←hssl,←hms];exact hrow4
   obtain⟨KA,kc,rfl,hKr,hkc,hKb⟩:=zby hrow4'
   have g34:Grew w3 w4:=g4
   have HKB:Hid (∀ ad,KA=some ad→w3.heap.size≤ad.block∧ad.block<w4.heap.size):=hQ9 hKb
   have G14:=zb G13 g34
   have hown4:=zo (S:=fun _=>False) hown3 (zF g34) (fun g _ h=>h)
   have hw34:=g34.size
   clear HSK hrow4 hrow4' hnil hperm hms hssl hown3 g4 g34 G13 HOF hsize hKb
   have hEl0:E.length=ks.length:=HEL.out
   go_wp2_with fail
   generalize wr.heap.size=bM at *
   go_loopw [11,38] (fun rv iv wq=>∃ i:Nat,i≤ks.length∧iv=.int .i64 i∧wq.ownsRow w1.heap.size 79 23 rv i (apL (E.take i)).flatten∧Grew w1 wq∧w4.heap.size≤wq.heap.size∧Rd wq wq.heap.size KA (i64L ks)∧(∀ g,rv.ownBlock=some g→g<w3.heap.size∨w4.heap.size≤g)) (fun _ i _=>ks.length-(Go.RowKit.intOf i).toNat)
   case atStart=>exact⟨0,Nat.zero_le _,rfl,by simpa [apL]using hown4,G14,zN9 _,hKr,fun g h=>by simp [Value.ownBlock]at h;omega⟩
   case round =>
    obtain⟨i,hil,rfl,hrow,hg,hsz4,hKR,hob⟩:=hrel
    by_cases hlt:i<ks.length
    ·obtain⟨ad,hKA,hbl,hc0⟩:=jV (l:=ks) hKR i hlt
     subst hKA
     have hiE:i<E.length:=by omega
     have hts:E.take (i+1)=E.take i++[E[i]]:=by rw [List.take_succ_eq_append_getElem hiE]
     have HTS:=hQ9 hts
     have hfx:=HGET.out i hlt hiE
     have hk64:=HK64.out _ (List.getElem_mem hlt)
     have HI0:Hid ((0:Int)≤(i:Int)∧(i:Int)<(ks.length:Int)):=hQ9 ⟨by omega,by omega⟩
     have hi0:=HI0.out.1
     have hi1:=HI0.out.2
     have e4:IntKind.i64.wrap ((i:Int)+1)=(i:Int)+1:=IntWalk.i64_in _ (by omega)
     generalize E[i]=S at *
     generalize ks[i]=k at *
     have hkey:keyOf Tryz.prog 3 (.int .i64 k)=some (.int .i64 k):=keyOf_int_mk Tryz.underlying3 (WalkArith.wf_i64 hk64)
     have hu:(firstA F).atKey (.int .i64 k) (.held (.agg (zA23:Array Value)))=.held (.agg S.C):=(yj AP.who (fun S=>Value.agg S.C) F).2.2 k S _ hfx
     have hownM:=yu hown1 hg
     have hsz:S.C.size=23:=rfl
     have hszq:=hg.size
     clear hts hfx hk64
     go_wp2_with(first
      | (at_lookup;refine x8 _ rfl _ _ 325 rfl 3 79 yW Tryz.underlying325 (zam _) bM F.length _ rfl hownM _ _ rfl hkey (.agg S.C) hu ?_)
      | (at_builtin;rw [xP];refine zO _ rfl (.tmp 42) (.tmp 46) 104 rfl w1.heap.size 79 i0 (.agg (#[.int .u64 0,.int .i64 0,.int .i64 0,.int .i64 0,.int .u64 0,.int .u64 0,.int .u64 0,.int .u64 0,.int .u64 0,.int .u64 0,.int .u64 0,.int .u64 0,.int .u64 0,.int .u64 0,.int .u64 0,.int .u64 0,.int .u64 0,.int .u64 0,.int .u64 0,.int .u64 0,.int .u64 0,.int .u64 0,.slice none 0 0]:Array Value)) 23 200 Tryz.underlying104 hi hz0 hz1 hz2 rfl (by decide) _ _ _ rfl (hrow.alloc _) ⟨wr.heap.size,0,none⟩ 1 1 S.C.toList rfl rfl (fun j u hj=>yg wr S.C 79 j u hj) S.one' (by unfold maxLen;omega) (by omega) (by simp;omega) ?_;intro v' w5 hown5 hgrow5 hob5))
     go_roundw
     case rel=>exact⟨i+1,by omega,by go_num,by
      rw [HTS.out,xp]
      exact hown5,(ze hg _).grown hgrow5 (by simp;omega) (zu hrow),(by have:=hgrow5.size;simp at this;omega),
      jt (hKR.gr (ze (za wr) _)) hgrow5 (fun ad e h=>by
       have h1:=hob _ h
       have h2:=HKB.out ad e
       omega),(fun g h=>by
       rcases hob5 with h3 | h3
       ·exact hob g (h3▸h)
       ·rw [h3]at h;injection h with h;simp at h;omega)⟩
     case measure=>simp [Go.RowKit.intOf];omega
    ·obtain rfl:i=ks.length:=by omega
     rw [←hEl0,List.take_length]at hrow
     obtain⟨B,c',rfl,hB,hc1,hc2,hbB⟩:=y6 hrow rfl
     have GG:=zb G1 hg
     go_wp2_with fail
     go_ret
     exact⟨B,c',by rw [hEl0];rfl,⟨hB,fun S hS=>HL.out.ok S (HFL.out S (HEM.out S hS)),fun S hS=>(HL.out.at_ S (HFL.out S (HEM.out S hS))).gr GG⟩,hc1,hc2,GG⟩
end Go.Proofs.YtkpnheenacchhaaGreatDoor
namespace Go.Proofs.YtkpnheenacchhaaGreatDoor
open Go.RowKit
noncomputable def chosen (K:KP) (d:Nat) (L:List SP):List SP:=(eachL SP.who (L.filter (fitB K d))).take (2*K.f+1).toNat
noncomputable def enoughB (K:KP) (d:Nat) (L:List SP):Bool:=decide ((2*K.f+1).toNat≤(eachL SP.who (L.filter (fitB K d))).length)
theorem ziy {K:KP} (hK:K.ok) (A:Option Addr) (c:Nat) (L:List SP) (hl:L.length≤100000) (d bd bk:Nat) (w:World) (hs:Std w) (hk:K.at w) (hL:Sps w A L) (hd:w.cell? ⟨bd,0,none⟩=some (.int .u64 (d:Nat))) (hkc:Ag w bk K.C.toList) (hen:enoughB K d L=true) :
 Calls Tryz.prog 182 #[.agg #[.int .i64 K.f],.slice A L.length c,.func (.func 166) #[] #[],.func (.func 183) #[] #[.pointer (some ⟨bd,0,none⟩),.pointer (some ⟨bk,0,none⟩)]] w fun e w' =>
  ∃ B,e=.returned (.tuple #[.slice B (chosen K d L).length (chosen K d L).length,.int .i64 0])∧Sps w' B (chosen K d L)∧Grew w w':=by
 have huf:=Tryz.underlying89
 have HCF:Hid (zI9 89=some [Value.int .i64 K.f].length):=hQ9 (by kernel_rfl)
 have hf:=hK.f
 have CQ:=hQ9 (fun W=>qq_ok K.f hf W)
 have zk:=Ag.new w 89 #[.int .i64 K.f]
 have G1:=ze (za w) (.cells #[.int .i64 K.f] 89)
 have CE:=hQ9 (zpk hK A c L hl d bd bk _ (hs.grew G1) (hk.gr G1) (hL.gr G1) (zX hd G1) (hkc.grew G1))
 obtain⟨qn,hqn⟩:∃ qn:Nat,2*K.f+1=(qn:Int)∧3≤qn:=⟨(2*K.f+1).toNat,by omega,by omega⟩
 obtain⟨E,hE⟩:∃ E,eachL SP.who (L.filter (fitB K d))=E:=⟨_,rfl⟩
 have hch:chosen K d L=E.take qn:=by unfold chosen;rw [hE,hqn.1,Int.toNat_natCast]
 have hle:qn≤E.length:=by unfold enoughB at hen;rw [hE,hqn.1,Int.toNat_natCast]at hen;exact of_decide_eq_true hen
 have HCL:Hid ((E.take qn).length=qn):=hQ9 (by rw [List.length_take];omega)
 have hEl:E.length≤100000:=by
  rw [←hE,yE]
  exact Nat.le_trans (xl _ _) (Nat.le_trans (List.length_filter_le _ _) hl)
 rw [hE]at CE
 rw [hch,HCL.out]
 rw [hqn.1]at CQ
 have hq3:=hqn.2
 clear hE hch hen hqn hs hk hL hd hkc hK hl hf
 generalize K.f=kf at *
 go_enter Tryz.func182,Tryz.ntmps182
 go_wp2_with fail
 refine(CE.out).mono ?_
 rintro e w1 ⟨B,c',rfl,hSp,hc1,hc2,gg⟩
 have hm0:w1.rangeAt w.heap.size 0 [.int .i64 kf]:=(zk.grew gg).cell
 have G2:=zb G1 gg
 clear CE zk G1 gg
 go_wp2_with(with_reducible refine wpList_load_mid rfl 89 (.tmp 4) rfl w.heap.size 0 rfl [.int .i64 kf] _ hm0 huf rfl HCF.out ?_)
 refine(CQ.out w1).mono ?_
 rintro e w2 ⟨rfl,gg⟩
 have G3:=zb G2 gg
 have hSp2:=hSp.gr gg
 clear hm0 G2 hSp gg CQ
 have e1:decide ((qn:Int)<1)=false:=zF9 (by omega)
 have e2:decide (E.length<qn)=false:=zF9 (by omega)
 obtain⟨q,rfl,hq,-⟩:=hSp2.get 0 (by omega)
 have h1:(0:Int)≤(qn:Int):=by omega
 have h2:(qn:Int)≤(c':Int):=by omega
 have HT:=hQ9 (hSp2.take qn)
 clear hSp2
 go_wp2_with fail
 go_ret2
 exact⟨_,rfl,HT.out,G3⟩
noncomputable def chosenA (K:KP) (d:Nat) (L:List AP):List AP:=(eachL AP.who (L.filter (gfB K d))).take (2*K.f+1).toNat
noncomputable def enoughA (K:KP) (d:Nat) (L:List AP):Bool:=decide ((2*K.f+1).toNat≤(eachL AP.who (L.filter (gfB K d))).length)
theorem ze0 {K:KP} (hK:K.ok) (A:Option Addr) (c:Nat) (L:List AP) (hl:L.length≤100000) (d bd bk:Nat) (w:World) (hs:Std w) (hk:K.at w) (hL:Aps w A L) (hd:w.cell? ⟨bd,0,none⟩=some (.int .u64 (d:Nat))) (hkc:Ag w bk K.C.toList) (hen:enoughA K d L=true) :
 Calls Tryz.prog 108 #[.agg #[.int .i64 K.f],.slice A L.length c,.func (.func 109) #[] #[],.func (.func 110) #[] #[.pointer (some ⟨bd,0,none⟩),.pointer (some ⟨bk,0,none⟩)]] w fun e w' =>
  ∃ B,e=.returned (.tuple #[.slice B (chosenA K d L).length (chosenA K d L).length,.int .i64 0])∧Aps w' B (chosenA K d L)∧Grew w w':=by
 have huf:=Tryz.underlying89
 have HCF:Hid (zI9 89=some [Value.int .i64 K.f].length):=hQ9 (by kernel_rfl)
 have hf:=hK.f
 have CQ:=hQ9 (fun W=>qq_ok K.f hf W)
 have zk:=Ag.new w 89 #[.int .i64 K.f]
 have G1:=ze (za w) (.cells #[.int .i64 K.f] 89)
 have CE:=hQ9 (zha hK A c L hl d bd bk _ (hs.grew G1) (hk.gr G1) (hL.gr G1) (zX hd G1) (hkc.grew G1))
 obtain⟨qn,hqn⟩:∃ qn:Nat,2*K.f+1=(qn:Int)∧3≤qn:=⟨(2*K.f+1).toNat,by omega,by omega⟩
 obtain⟨E,hE⟩:∃ E,eachL AP.who (L.filter (gfB K d))=E:=⟨_,rfl⟩
 have hch:chosenA K d L=E.take qn:=by unfold chosenA;rw [hE,hqn.1,Int.toNat_natCast]
 have hle:qn≤E.length:=by unfold enoughA at hen;rw [hE,hqn.1,Int.toNat_natCast]at hen;exact of_decide_eq_true hen
 have HCL:Hid ((E.take qn).length=qn):=hQ9 (by rw [List.length_take];omega)
 have hEl:E.length≤100000:=by
  rw [←hE,yE]
  exact Nat.le_trans (xl _ _) (Nat.le_trans (List.length_filter_le _ _) hl)
 rw [hE]at CE
 rw [hch,HCL.out]
 rw [hqn.1]at CQ
 have hq3:=hqn.2
 clear hE hch hen hqn hs hk hL hd hkc hK hl hf
 generalize K.f=kf at *
 go_enter Tryz.func108,Tryz.ntmps108
 go_wp2_with fail
 refine(CE.out).mono ?_
 rintro e w1 ⟨B,c',rfl,hSp,hc1,hc2,gg⟩
 have hm0:w1.rangeAt w.heap.size 0 [.int .i64 kf]:=(zk.grew gg).cell
 have G2:=zb G1 gg
 clear CE zk G1 gg
 go_wp2_with(with_reducible refine wpList_load_mid rfl 89 (.tmp 4) rfl w.heap.size 0 rfl [.int .i64 kf] _ hm0 huf rfl HCF.out ?_)
 refine(CQ.out w1).mono ?_
 rintro e w2 ⟨rfl,gg⟩
 have G3:=zb G2 gg
 have hSp2:=hSp.gr gg
 clear hm0 G2 hSp gg CQ
 have e1:decide ((qn:Int)<1)=false:=zF9 (by omega)
 have e2:decide (E.length<qn)=false:=zF9 (by omega)
 obtain⟨q,rfl,hq,-⟩:=hSp2.get 0 (by omega)
 have h1:(0:Int)≤(qn:Int):=by omega
 have h2:(qn:Int)≤(c':Int):=by omega
 have HT:=hQ9 (hSp2.take qn)
 clear hSp2
 go_wp2_with fail
 go_ret2
 exact⟨_,rfl,HT.out,G3⟩
theorem zgc {K:KP} (hK:K.ok) (A:Option Addr) (c:Nat) (L:List AP) (hl:L.length≤100000) (d bd bk:Nat) (w:World) (hs:Std w) (hk:K.at w) (hL:Aps w A L) (hd:w.cell? ⟨bd,0,none⟩=some (.int .u64 (d:Nat))) (hkc:Ag w bk K.C.toList) (hen:enoughA K d L=false) :
 Calls Tryz.prog 108 #[.agg #[.int .i64 K.f],.slice A L.length c,.func (.func 109) #[] #[],.func (.func 110) #[] #[.pointer (some ⟨bd,0,none⟩),.pointer (some ⟨bk,0,none⟩)]] w fun e w' =>
  e=.returned (.tuple #[.slice none 0 0,.int .i64 8])∧Grew w w':=by
 have huf:=Tryz.underlying89
 have HCF:Hid (zI9 89=some [Value.int .i64 K.f].length):=hQ9 (by kernel_rfl)
 have hf:=hK.f
 have CQ:=hQ9 (fun W=>qq_ok K.f hf W)
 have zk:=Ag.new w 89 #[.int .i64 K.f]
 have G1:=ze (za w) (.cells #[.int .i64 K.f] 89)
 have CE:=hQ9 (zha hK A c L hl d bd bk _ (hs.grew G1) (hk.gr G1) (hL.gr G1) (zX hd G1) (hkc.grew G1))
 obtain⟨qn,hqn⟩:∃ qn:Nat,2*K.f+1=(qn:Int)∧3≤qn:=⟨(2*K.f+1).toNat,by omega,by omega⟩
 obtain⟨E,hE⟩:∃ E,eachL AP.who (L.filter (gfB K d))=E:=⟨_,rfl⟩
 have hle:¬qn≤E.length:=by unfold enoughA at hen;rw [hE,hqn.1,Int.toNat_natCast]at hen;exact of_decide_eq_false hen
 have hEl:E.length≤100000:=by
  rw [←hE,yE]
  exact Nat.le_trans (xl _ _) (Nat.le_trans (List.length_filter_le _ _) hl)
 rw [hE]at CE
 rw [hqn.1]at CQ
 have hq3:=hqn.2
 clear hE hen hqn hs hk hL hd hkc hK hl hf
 generalize K.f=kf at *
 go_enter Tryz.func108,Tryz.ntmps108
 go_wp2_with fail
 refine(CE.out).mono ?_
 rintro e w1 ⟨B,c',rfl,hSp,hc1,hc2,gg⟩
 have hm0:w1.rangeAt w.heap.size 0 [.int .i64 kf]:=(zk.grew gg).cell
 have G2:=zb G1 gg
 clear CE zk G1 gg
 go_wp2_with(with_reducible refine wpList_load_mid rfl 89 (.tmp 4) rfl w.heap.size 0 rfl [.int .i64 kf] _ hm0 huf rfl HCF.out ?_)
 refine(CQ.out w1).mono ?_
 rintro e w2 ⟨rfl,gg⟩
 have G3:=zb G2 gg
 have hSp2:=hSp.gr gg
 clear hm0 G2 hSp gg CQ
 have e1:decide ((qn:Int)<1)=false:=zF9 (by omega)
 have e2:decide (E.length<qn)=true:=decide_eq_true (by omega)
 clear hSp2 hle
 go_wp2_with fail
 go_ret2
 exact⟨rfl,G3⟩
end Go.Proofs.YtkpnheenacchhaaGreatDoor
