/- What a region made, between two sizes of the heap. -/
import Derived.Test.YtpppegnojmnicaaGreatDoorTzz
import Derived.Great.BuildSlice
import Derived.Test.YtpppegnojmnicaaGreatDoorTbq
import Derived.Test.YtpppegnojmnicaaGreatDoorTbp
import Derived.Test.YtpppegnojmnicaaGreatDoorTba
import Derived.Test.YtpppegnojmnicaaGreatDoorTbg
set_option maxHeartbeats 8000000
set_option maxRecDepth 100000
set_option linter.unusedSimpArgs false
set_option linter.unusedVariables false
namespace Go.Proofs.YtpppegnojmnicaaGreatDoor
open Go.RowKit
theorem at_kp {S:SP} {P:Nat→Prop} {w w':World} (h:S.at w) (k:Kp P w w') (hn:∀ ad,S.A=some ad→S.l=[]∨¬P ad.block):S.at w':=by
 by_cases hl:S.l=[]
 ·intro j hj;rw [hl]at hj;exact absurd hj (by simp [u64L])
 ·exact(Rd.kp h k (Nat.le_refl _) (fun ad e _=>by
   rcases hn ad e with h1 | h1
   ·exact absurd h1 hl
   ·exact h1)).more k.size
structure MkS (w:World) (B:Nat) (S0:SP) (lo hi:Nat) (v:Value) (f:Option Addr→Nat→Value):Prop where
 out:∃ A c,v=f A c∧(S0.mv A c).at w∧B≤lo∧(∀ ad,A=some ad→S0.l=[]∨(lo≤ad.block∧ad.block<hi))
theorem MkS.kp {P:Nat→Prop} {w w':World} {B:Nat} {S0:SP} {lo hi:Nat} {v:Value} {f:Option Addr→Nat→Value} (h:MkS w B S0 lo hi v f) (k:Kp P w w') (hp:∀ g,P g→g<B):MkS w' B S0 lo hi v f:=by
 obtain⟨A,c,h1,h2,h3,h4⟩:=h.out
 refine⟨A,c,h1,at_kp h2 k (fun ad e=>?_),h3,h4⟩
 rcases h4 ad e with h5 | h5
 ·exact .inl h5
 ·exact .inr (fun h6=>by have:=hp _ h6;omega)
theorem MkS.gr {w w':World} {B:Nat} {S0:SP} {lo hi:Nat} {v:Value} {f:Option Addr→Nat→Value} (h:MkS w B S0 lo hi v f) (k:Grew w w'):MkS w' B S0 lo hi v f:=h.kp (P:=fun _=>False) (zJ k) (fun _ h=>h.elim)
structure AgZ (w:World) (B lo hi:Nat) (cs:List Value) (v:Value):Prop where
 out:∃ q,v=.pointer (some ⟨q,0,none⟩)∧Ag w q cs∧B≤lo∧lo≤q∧q<hi
theorem AgZ.kp {P:Nat→Prop} {w w':World} {B lo hi:Nat} {cs:List Value} {v:Value} (h:AgZ w B lo hi cs v) (k:Kp P w w') (hp:∀ g,P g→g<B):AgZ w' B lo hi cs v:=by
 obtain⟨q,h1,h2,h3,h4,h5⟩:=h.out
 exact⟨q,h1,h2.kp k (fun h6=>by have:=hp _ h6;omega),h3,h4,h5⟩
theorem AgZ.gr {w w':World} {B lo hi:Nat} {cs:List Value} {v:Value} (h:AgZ w B lo hi cs v) (k:Grew w w'):AgZ w' B lo hi cs v:=h.kp (P:=fun _=>False) (zJ k) (fun _ h=>h.elim)
structure CtS (w:World) (B:Nat) (L:List SP) (lo hi:Nat) (v:Value) (f:Option Addr→Nat→Value):Prop where
 out:∃ A c M,v=f A c∧MvL L M∧Sps w A M∧B≤lo∧(∀ ad,A=some ad→lo≤ad.block∧ad.block<hi)∧(∀ S∈M,∀ ad,S.A=some ad→S.l=[]∨(lo≤ad.block∧ad.block<hi))
theorem CtS.gr {w w':World} {B:Nat} {L:List SP} {lo hi:Nat} {v:Value} {f:Option Addr→Nat→Value} (h:CtS w B L lo hi v f) (k:Grew w w'):CtS w' B L lo hi v f:=by
 obtain⟨A,c,M,h1,h2,h3,h4⟩:=h.out
 exact⟨A,c,M,h1,h2,h3.gr k,h4⟩
theorem kp_new {P:Nat→Prop} {a b c:World} {q:Nat} (h:Kp P a b) (k:Kp (fun j=>j=q) b c) (hq:a.heap.size≤q):Kp P a c :=
 ⟨k.os.trans h.os,k.tape.trans h.tape,k.output.trans h.output,Nat.le_trans h.size k.size,fun i hi hn=>(k.block i (Nat.lt_of_lt_of_le hi h.size) (fun e=>by have e2:i=q:=e;omega)).trans (h.block i hi hn)⟩
structure StF (P:Nat→Prop) (w0:World) (S0:SP) (v:Value) (W:World):Prop where
 out:∃ A c q,v=.pointer (some ⟨q,0,none⟩)∧Ag W q (S0.mv A c).C.toList∧(S0.mv A c).at W∧w0.heap.size≤q∧(∀ ad,A=some ad→S0.l=[]∨w0.heap.size≤ad.block)∧Kp P w0 W
theorem StF.gr {P:Nat→Prop} {w0:World} {S0:SP} {v:Value} {x y:World} (h:StF P w0 S0 v x) (g:Grew x y):StF P w0 S0 v y:=by
 obtain⟨A,c,q,h1,h2,h3,h4,h5,h6⟩:=h.out
 exact⟨A,c,q,h1,h2.grew g,h3.gr g,h4,h5,xh h6 (zJ g)⟩
structure CtF (w0:World) (cm:Cm) (L:List SP) (v:Value) (W:World):Prop where
 out:∃ A c M q,v=.pointer (some ⟨q,0,none⟩)∧Ag W q (ctC cm A L.length c).toList∧MvL L M∧Sps W A M∧w0.heap.size≤q∧(∀ ad,A=some ad→w0.heap.size≤ad.block)∧(∀ S∈M,∀ ad,S.A=some ad→S.l=[]∨w0.heap.size≤ad.block)∧Grew w0 W
theorem CtF.gr {w0:World} {cm:Cm} {L:List SP} {v:Value} {x y:World} (h:CtF w0 cm L v x) (g:Grew x y):CtF w0 cm L v y:=by
 obtain⟨A,c,M,q,h1,h2,h3,h4,h5,h6,h7,h8⟩:=h.out
 exact⟨A,c,M,q,h1,h2.grew g,h3,h4.gr g,h5,h6,h7,zc h8 g⟩
noncomputable def l12 (n:Nat):List SP:=(List.range n).map (fun j=>sp12 (3-j) none 0)
theorem zqc (n:Nat):l12 (n+1)=l12 n++[sp12 (3-n) none 0]:=by simp [l12,List.range_succ]
theorem l12_mv {M:List SP} (h:MvL (l12 4) M):∃ A0 A1 A2 A3 c0 c1 c2 c3,M=[sp12 3 A3 c3,sp12 2 A2 c2,sp12 1 A1 c1,sp12 0 A0 c0]:=by
 have hl:M.length=4:=by rw [h.len];simp [l12]
 match M,hl with
 | [a,b,c,d],_ =>
  obtain⟨A3,c3,e3⟩:=h.each 0 (by simp [l12]) (by simp)
  obtain⟨A2,c2,e2⟩:=h.each 1 (by simp [l12]) (by simp)
  obtain⟨A1,c1,e1⟩:=h.each 2 (by simp [l12]) (by simp)
  obtain⟨A0,c0,e0⟩:=h.each 3 (by simp [l12]) (by simp)
  refine⟨A0,A1,A2,A3,c0,c1,c2,c3,?_⟩
  simp only [l12,List.getElem_map,List.getElem_range,List.getElem_cons_zero,List.getElem_cons_succ]at e0 e1 e2 e3
  rw [e0,e1,e2,e3]
  rfl
theorem e12_mv {M:List SP} {A0 A1 A2:Option Addr} {c0 c1 c2:Nat} (h:MvL [sp12 0 A0 c0,sp12 1 A1 c1,sp12 2 A2 c2] M):∃ B0 B1 B2 d0 d1 d2,M=[sp12 0 B0 d0,sp12 1 B1 d1,sp12 2 B2 d2]:=by
 have hl:M.length=3:=h.len
 match M,hl with
 | [a,b,c],_ =>
  obtain⟨B0,d0,e0⟩:=h.each 0 (by simp) (by simp)
  obtain⟨B1,d1,e1⟩:=h.each 1 (by simp) (by simp)
  obtain⟨B2,d2,e2⟩:=h.each 2 (by simp) (by simp)
  simp only [List.getElem_cons_zero,List.getElem_cons_succ]at e0 e1 e2
  refine⟨B0,B1,B2,d0,d1,d2,?_⟩
  rw [e0,e1,e2]
  rfl
theorem zdr (i:Nat) (hi:i<4) (A:Option Addr) (c:Nat):(sp12 i A c).gd :=
 ⟨zi7 i hi A c,⟨by show _≤(i:Int);omega,by show(i:Int)≤_;omega⟩,⟨by show _≤(i:Int);omega,by show(i:Int)≤_;omega⟩,by show(0:Int)≤0;omega,by show(pathN (ksL 3 2 i) 0).length≤8;rw [zg5];omega⟩
structure BsR (w:World) (B:Nat) (L:List SP) (v:Value):Prop where
 out:∃ b,v=.slice (some ⟨b,0,none⟩) L.length L.length∧RdC w (some ⟨b,0,none⟩) 24 (spL L)∧B≤b
theorem BsR.gr {w w':World} {B:Nat} {L:List SP} {v:Value} (h:BsR w B L v) (g:Grew w w'):BsR w' B L v:=by
 obtain⟨b,h1,h2,h3⟩:=h.out
 exact⟨b,h1,h2.gr g,h3⟩
theorem zsr (y:World) (L:List SP) (B:Nat) (hB:B≤y.heap.size):BsR (y.alloc (.cells (spL L).flatten.toArray 91)) B L (.slice (some ⟨y.heap.size,0,none⟩) L.length L.length):=by
 refine⟨y.heap.size,rfl,fun k hk=>⟨y.heap.size,rfl,by simp,fun j v hj=>?_⟩,hB⟩
 have hjz:j<24:=by
  have:=(List.getElem?_eq_some_iff.1 hj).1
  rw [spL_z L _ (List.getElem_mem hk)]at this
  exact this
 have z:=Ag.new y 91 (spL L).flatten.toArray
 have:=z.cell (k*24+j) v (by show(spL L).flatten[k*24+j]?=some v;rw [zbg (z:=24) (spL L) (spL_z L) k j hk hjz];exact hj)
 rwa [Nat.zero_add]at this
theorem zct {ops:Array Oper} {rest:List Oper} {o:Oper} {a:Act} {w:World} {Q:Exit→Act→World→Prop} (hg:o.guard=none) (L:List SP) (parts:Array (Nat × Operand)) (ho:o.op=.buildSlice 34 L.length parts)
 (h0:0<L.length) (h1:L.length≤1000) (hp:(parts.map fun(i,x)=>(i,a.eval x)).toList=((L.map (fun S=>Value.agg S.C)).zipIdx 0).map fun x=>(x.2,x.1))
 (h:wpList Tryz.prog ops Q rest (a.put o.dst (.slice (some ⟨w.heap.size,0,none⟩) L.length L.length)) (w.alloc (.cells (spL L).flatten.toArray 91))):wpList Tryz.prog ops Q (o::rest) a w:=by
 obtain⟨i0,hi,hz0,hz1,hz2⟩:=info_parts jA
 refine wpList_buildSlice hg 34 91 L.length parts ho (spL L).flatten.toArray i0 _ Tryz.underlying34 hi hz0 (by rw [hz1];omega) (by rw [hz1];omega) ?_ h
 rw [hp,hz1]
 obtain⟨zs,hzs⟩:∃ zs:Array Value,(Array.range (L.length*24)).map (fun x=>(Value.cells (.agg (zS24:Array Value)))[x%(Value.cells (.agg (zS24:Array Value))).size]!)=zs:=⟨_,rfl⟩
 have hsz:zs.size=L.length*24:=by rw [←hzs,Array.size_map,Array.size_range]
 rw [hzs]
 clear hzs
 have hfl:(L.map (fun S=>Value.agg S.C)).flatMap (fun v=>v.cells.toList)=(spL L).flatten:=by
  rw [List.flatMap_def,List.map_map]
  rfl
 rw [Great.fill_whole (s:=24) (by decide) _ zs (fun v hv=>by
  obtain⟨S,_,rfl⟩:=List.mem_map.1 hv
  rfl) (by rw [List.length_map,hsz]),hfl]
theorem zqd {L M:List SP} (h:MvL L M):MvL M L:=⟨h.len.symm,fun k h1 h2=>by
 obtain⟨A,c,e⟩:=h.each k h2 h1
 exact⟨L[k].A,L[k].c,by rw [e];rfl⟩⟩
theorem md12_3:mdV 1 [9,1,5]=5:=by
 unfold mdV
 rw [if_pos (by rfl)]
 unfold midZ
 rw [←jE (m:=[1,5,9]) (by decide) (by decide)]
 rfl
theorem zkz (w:World) (hS:Std w) (hg8:5<w.heap.size):Calls Tryz.prog 15 #[] w fun e w'=>e=.returned (.bool true)∧Grew w w':=by
 have HS:=hQ9 hS
 have HG8:=hQ9 hg8
 have CE:=zry 3 ⟨by omega,by omega⟩ 2 (by omega) w
 rw [show((2:Nat):Int)=2 from rfl]at CE
 have hkt:=Tryz.underlying50
 have hut:=Tryz.underlying91
 have hct:=Tryz.underlying36
 obtain⟨i0,hi,hz0,hz1,hz2⟩:=info_parts jA
 clear hS hg8
 go_enter Tryz.func15,Tryz.ntmps15
 go_wp2_with fail
 refine CE.mono ?_
 clear CE
 rintro e w1 ⟨LA,Lc,RA,Rc,p,rfl,KS,rL,rR,FL0,FR0,G1⟩
 obtain⟨lad,hLA,-,-⟩:=rL 0 (by simp [ptrL])
 subst hLA
 obtain⟨kc,hkc⟩:∃ v,kyS 1 RA 4 Rc 2=v:=⟨_,rfl⟩
 have HSK:Hid ((Tryz.prog.info? 50).map (·.size)=some (kyS 1 RA 4 Rc 2).size):=hQ9 (by kernel_rfl)
 have HSKL:Hid ((Tryz.prog.info? 50).map (·.size)=some (kyS 1 RA 4 Rc 2).toList.length):=hQ9 (by kernel_rfl)
 have HOK:Hid ((kyS 1 RA 4 Rc 2).all (·.oneCell')=true):=hQ9 (by simp [kyS,Value.oneCell'])
 have HKC:Hid ((kp12 RA Rc).C=kyS 1 RA 4 Rc 2):=hQ9 (by show kyS 1 RA (rtL 3 2 4).length Rc 2=_;rw [zcm])
 obtain⟨w2,hw2,ht2,g2,z2⟩:=yz w1 50 (#[.int .i64 0,.slice none 0 0,.int .i64 0]) (kyS 1 RA 4 Rc 2) rfl
 have HW2:=hQ9 hw2
 have HTK:=hQ9 ht2
 have HP:Hid (∀ i,i<4→w.heap.size≤p i+1∧p i+1<w1.heap.size):=hQ9 (fun i hi=>⟨by have:=KS.low i hi;omega,(KS.key i hi).key.lt⟩)
 have HAP:=hQ9 KS.apart
 have HLB:Hid (lad.block<w1.heap.size):=hQ9 (by
  obtain⟨ad,e,hb,_⟩:=rL 0 (by simp [ptrL])
  cases e;exact hb)
 have HRB:Hid (∀ ad,RA=some ad→ad.block<w1.heap.size):=hQ9 (fun ad e=>by
  obtain⟨ad2,e2,hb,_⟩:=rR 0 (by simp [u64L,zcm])
  rw [e]at e2;cases e2;exact hb)
 have KS2:=KS.grew g2
 have rL2:=rL.gr g2
 have rR2:=rR.gr g2
 have G2:=zc G1 g2
 have HLD:Hid (∀ i,i<4→w2.cell? (lad.add i)=some (.pointer (some ⟨p i+1,0,none⟩))):=hQ9 (fun i hi=>by
  obtain⟨ad,e,_,hc⟩:=rL2 i (by simp [ptrL];exact hi)
  cases e
  rw [hc];simp [ptrL])
 have HQK:Hid (w1.heap.size<w2.heap.size):=hQ9 z2.lt
 have FL:Hid (∀ i,i<4→lad.block≠p i+1):=hQ9 (fun i hi=>(FL0 lad rfl i hi).2)
 have FR:Hid (∀ i,i<4→∀ ad,RA=some ad→ad.block≠p i+1):=hQ9 (fun i hi ad e=>(FR0 ad e i hi).2)
 have HKS:Hid (∀ i,i<4→KyAt w2 (p i+1) (p i) (i:Int) (sdI 3 i) (ksL 3 2 i) 0 (2^2)):=hQ9 KS2.key
 rw [hkc]at z2 HSK HSKL HOK HTK HW2 HKC ⊢
 clear hw2 ht2 g2 KS KS2 rL rL2 rR G1 hkc FL0 FR0
 go_wp2_with(with_reducible refine wpList_store_mid rfl 50 (.tmp 2) (.tmp 23) rfl w1.heap.size 0 kc rfl rfl HTK.out HSK.out HOK.out ?_;rw [HW2.out];clear HW2 HTK;generalize w1.heap.size=qk at *)
 obtain⟨B0,hB0⟩:∃ b,w2.heap.size=b:=⟨_,rfl⟩
 have HQB:Hid (qk<B0):=hQ9 (by have:=HQK.out;omega)
 have hown0:w2.ownsRow B0 91 24 (.slice none 0 0) 0 (spL []).flatten:=World.ownsRow_nil _ _ _ _
 have HWB:Hid (w.heap.size≤B0):=hQ9 (by have:=G2.size;omega)
 have HBE:=hQ9 hB0
 clear hB0
 go_loopw [3,4] (fun rv iv wr=>∃(n:Nat) (M:List SP),n≤4∧iv=.int .i64 (3-(n:Int))∧B0≤wr.heap.size∧MvL (l12 n) M∧(∀ S∈M,S.ok)∧(∀ S∈M,S.at wr)∧(∀ S∈M,∀ ad,S.A=some ad→∀ g,rv.ownBlock=some g→S.l=[]∨ad.block≠g)∧(∀ S∈M,∀ ad,S.A=some ad→S.l=[]∨B0≤ad.block)∧wr.ownsRow B0 91 24 rv n (spL M).flatten∧(∀ i,i+n<4→KyAt wr (p i+1) (p i) (i:Int) (sdI 3 i) (ksL 3 2 i) 0 (2^2))∧Ag wr qk kc.toList∧(∀ i,i<4→wr.cell? (lad.add i)=some (.pointer (some ⟨p i+1,0,none⟩)))∧Rd wr wr.heap.size RA (u64L (rtL 3 2 4))∧Grew w wr) (fun _ iv _=>((Go.RowKit.intOf iv)+1).toNat)
 case atStart=>exact⟨0,[],by omega,rfl,(by have:=HBE.out;omega),by simpa [l12]using MvL.nil,by simp,by simp,by simp,by simp,hown0,fun i hi=>HKS.out i hi,z2,HLD.out,rR2,G2⟩
 case round =>
  clear HKS HLD z2 rR2 G2 hown0 HQK
  obtain⟨n,M,hn,rfl,hB0,hmv,hok,hat,hne,hlow,hrow,hks,zk,hld,rRr,hg⟩:=hrel
  by_cases hlt:n<4
  ·obtain⟨ii,hii,hin⟩:∃ ii:Nat,3-(n:Int)=(ii:Int)∧ii+n+1=4:=⟨3-n,by omega,by omega⟩
   rw [hii]
   have h0:(0:Int)≤(ii:Int):=by omega
   have h4:(ii:Int)<4:=by omega
   have hi4:ii<4:=by omega
   have e40:IntKind.i64.wrap (4-(ii:Int))=4-(ii:Int):=IntWalk.i64_in _ (by omega)
   have e41:IntKind.i64.wrap (10*(4-(ii:Int)))=at12 ii:=IntWalk.i64_in _ (by omega)
   have e29:IntKind.i64.wrap ((ii:Int)-1)=(ii:Int)-1:=IntWalk.i64_in _ (by omega)
   obtain⟨D,hD⟩:∃ D,dgC (cm12 0)=D:=⟨_,rfl⟩
   have HD:Hid (D=11072973056134508768):=hQ9 (by rw [←hD,qS])
   have HPI:=hQ9 (HP.out ii hi4)
   have HSB:Hid (∀ g,(fun j=>j=p ii+1) g→g<wr.heap.size):=hQ9 (fun g h=>by
    have h1:g=p ii+1:=h
    have:=HPI.out;have:=HQB.out;omega)
   have HSY:Hid (∀ y,Kp (fun j=>j=p ii+1) wr y→Std y):=hQ9 (fun y k=>HS.out.grew (yj hg k hg.size (fun i (hi:i=p ii+1)=>by have:=HPI.out;omega)))
   have HLC:Hid (∀ y,Kp (fun j=>j=p ii+1) wr y→y.cell? (lad.add ii)=some (.pointer (some ⟨p ii+1,0,none⟩))):=hQ9 (fun y k=>(World.cell?_of_block (by rw [zL];exact k.block lad.block (by have:=kU (hld ii hi4);rwa [zL]at this) (FL.out ii hi4))).trans (hld ii hi4))
   have HKY:Hid (∀ y,Grew wr y→KyAt y (p ii+1) (p ii) (ii:Int) (sdI 3 ii) (ksL 3 2 ii) 0 (2^2)):=hQ9 (fun y k=>(hks ii (by omega)).grew k)
   have CC:=hQ9 (fun W=>zg6 0 W)
   have CD:=hQ9 (fun W h=>je (cm12 0) (ky (ok12 0 (by omega))) W h)
   rw [hD,show(cm12 0).v=.agg (cm12 0).cells from rfl]at CD
   obtain⟨S0,hS0⟩:∃ S,sp12 ii none 0=S:=⟨_,rfl⟩
   have CM:Hid (∀ W,Std W→KyAt W (p ii+1) (p ii) (ii:Int) (sdI 3 ii) (ksL 3 2 ii) 0 (2^2)→Calls Tryz.prog 42 #[.pointer (some ⟨p ii+1,0,none⟩),.int .i64 (ii:Int),.int .u64 (D:Int),.int .i64 (at12 ii)] W fun e w' =>
    (∃ A c,e=.returned (.tuple #[.agg (S0.mv A c).C,.int .i64 0])∧(S0.mv A c).at w'∧(∀ ad,A=some ad→W.heap.size≤ad.block))∧Tn (p ii+1) W w'∧KyAt w' (p ii+1) (p ii) (ii:Int) (sdI 3 ii) (ksL 3 2 ii) (0+1) (2^2)):=hQ9 (fun W h1 h2=>by
    have:=zsa 3 2 ii 0 (by omega) hi4 (by decide) (p ii) D (by rw [HD.out];decide) (at12 ii) ⟨by unfold at12;omega,by unfold at12;omega⟩ (decide_eq_true (by unfold at12;omega)) W h1 h2
    rw [HD.out]at this ⊢
    rw [←hS0]
    exact this)
   have HL12:Hid (l12 (n+1)=l12 n++[S0]):=hQ9 (by rw [←hS0,zqc,show 3-n=ii by omega])
   have HSO:Hid S0.ok:=hQ9 (by rw [←hS0];exact zi7 ii hi4 none 0)
   have HII:=hQ9 hii
   have HIN:=hQ9 hin
   have HMV:=hQ9 hmv
   have HOKM:=hQ9 hok
   have HAT:=hQ9 hat
   have HNE:=hQ9 hne
   have HLW:=hQ9 hlow
   have HROW:=hQ9 hrow
   have HKS:=hQ9 hks
   have HZK:=hQ9 zk
   have HLD:=hQ9 hld
   have HRR:=hQ9 rRr
   have HGG:=hQ9 hg
   have HBW:=hQ9 hB0
   have HI4:=hQ9 hi4
   clear hD hS0 hii hin hmv hok hat hne hlow hrow hks zk hld rRr hg hB0 hlt hn
   go_upto_region 8 with fail
   refine zae 15 16 10 (fun j=>j=p ii+1) (fun ix9=>match ix9 with
    | 0=>fun v=>v=.slice (some lad) 4 Lc
    | 1=>fun v=>v=.int .i64 (ii:Int)
    | 2=>fun v=>v=.pointer (some (lad.add ii))
    | 3=>fun v=>v=.pointer (some ⟨p ii+1,0,none⟩)
    | 4=>fun v=>v=.int .i64 (ii:Int)
    | 5=>fun v=>v=.agg (cm12 0).cells
    | 6=>fun v=>v=.int .u64 (D:Int)
    | 7=>fun v=>v=.int .i64 (ii:Int)
    | 8=>fun v=>v=.int .i64 (4-(ii:Int))
    | 9=>fun v=>v=.int .i64 (at12 ii)
    | 10=>fun _=>True
    | 11=>fun v=>∃ A c,v=.tuple #[.agg (S0.mv A c).C,.int .i64 0]
    | 12=>fun _=>True
    | 13=>fun v=>v=.int .i64 0
    | 14=>fun _=>True
    | 15=>fun _=>True
    | _=>fun _=>True) (fun ix9=>match ix9 with
    | 10=>fun lo hi v w=>MkS w wr.heap.size S0 lo hi v (fun A c=>.tuple #[.agg (S0.mv A c).C,.int .i64 0])
    | 11=>fun lo hi v w=>MkS w wr.heap.size S0 lo hi v (fun A c=>.tuple #[.agg (S0.mv A c).C,.int .i64 0])
    | 12=>fun lo hi v w=>MkS w wr.heap.size S0 lo hi v (fun A c=>.agg (S0.mv A c).C)
    | 14=>fun lo hi v w=>AgZ w wr.heap.size lo hi (zS24:Array Value).toList v
    | _=>fun _ _ _ _=>True) (fun ix9=>match ix9 with
    | 11=>10
    | 12=>11
    | ix8=>ix8) (fun ix9=>match ix9 with
    | 11=>10
    | 12=>10
    | ix8=>ix8) (fun ix9=>match ix9 with
    | 13=>true
    | _=>false) 14 (fun v W=>StF (fun j=>j=p ii+1) wr S0 v W) rfl (by kernel_rfl) (by kernel_rfl) (by kernel_rfl) (by kernel_rfl) rfl rfl (by decide) (fun _=>trivial) ?_ ?_ ?_ ?_ (fun o ho=>by cases ho;rfl) (fun v x y h hg=>StF.gr h hg) ?_
   ·simp only [actOf,tk1,tk0,dr1,dr0,Act.put,si1,st1,st0,Nat.reduceAdd]
    refine⟨?_,?_,?_,?_,?_,?_,?_,?_,?_,?_,?_,?_,?_,?_,?_,trivial⟩
    ·intro vs lo hi y hg hd hvia
     replace hg:Kp (fun j=>j=p ii+1) wr y:=hg
     clear hvia
     dsimp only
     go_wp2_with fail
     first | exact⟨rfl,_,rfl,za _,rfl⟩ | exact⟨rfl,_,rfl,za _,rfl,trivial⟩
    ·intro vs lo hi y hg hd hvia
     replace hg:Kp (fun j=>j=p ii+1) wr y:=hg
     clear hvia
     dsimp only
     go_wp2_with fail
     first | exact⟨rfl,_,rfl,za _,rfl⟩ | exact⟨rfl,_,rfl,za _,rfl,trivial⟩
    ·intro vs lo hi y hg hd hvia
     replace hg:Kp (fun j=>j=p ii+1) wr y:=hg
     obtain⟨h0,h1,_⟩:=hd
     replace h0:=h0 rfl
     replace h1:=h1 rfl
     clear hvia
     dsimp only
     rw [show vs 0=_ from h0,show vs 1=_ from h1]
     go_wp2_with fail
     first | exact⟨rfl,_,rfl,za _,rfl⟩ | exact⟨rfl,_,rfl,za _,rfl,trivial⟩
    ·intro vs lo hi y hg hd hvia
     replace hg:Kp (fun j=>j=p ii+1) wr y:=hg
     obtain⟨h2,_⟩:=hd
     replace h2:=h2 rfl
     clear hvia
     dsimp only
     rw [show vs 2=_ from h2]
     have hc:=HLC.out y hg
     go_wp2_with fail
     first | exact⟨rfl,_,rfl,za _,rfl⟩ | exact⟨rfl,_,rfl,za _,rfl,trivial⟩
    ·intro vs lo hi y hg hd hvia
     replace hg:Kp (fun j=>j=p ii+1) wr y:=hg
     clear hvia
     dsimp only
     go_wp2_with fail
     first | exact⟨rfl,_,rfl,za _,rfl⟩ | exact⟨rfl,_,rfl,za _,rfl,trivial⟩
    ·intro vs lo hi y hg hd hvia
     replace hg:Kp (fun j=>j=p ii+1) wr y:=hg
     clear hvia
     dsimp only
     go_wp2_with(go_at_call 44;refine(CC.out y).mono ?_;rintro e z ⟨rfl,gz⟩)
     exact⟨rfl,_,rfl,gz,rfl,trivial⟩
    ·intro vs lo hi y hg hd hvia
     replace hg:Kp (fun j=>j=p ii+1) wr y:=hg
     obtain⟨h5,_⟩:=hd
     replace h5:=h5 rfl
     clear hvia
     dsimp only
     rw [show vs 5=_ from h5]
     have hgS:=HSY.out y hg
     go_wp2_with(go_at_call 43;refine(CD.out y hgS).mono ?_;rintro e z ⟨rfl,gz⟩)
     exact⟨rfl,_,rfl,gz,rfl,trivial⟩
    ·intro vs lo hi y hg hd hvia
     replace hg:Kp (fun j=>j=p ii+1) wr y:=hg
     clear hvia
     dsimp only
     go_wp2_with fail
     first | exact⟨rfl,_,rfl,za _,rfl⟩ | exact⟨rfl,_,rfl,za _,rfl,trivial⟩
    ·intro vs lo hi y hg hd hvia
     replace hg:Kp (fun j=>j=p ii+1) wr y:=hg
     obtain⟨h7,_⟩:=hd
     replace h7:=h7 rfl
     clear hvia
     dsimp only
     rw [show vs 7=_ from h7]
     go_wp2_with fail
     first | exact⟨rfl,_,rfl,za _,rfl⟩ | exact⟨rfl,_,rfl,za _,rfl,trivial⟩
    ·intro vs lo hi y hg hd hvia
     replace hg:Kp (fun j=>j=p ii+1) wr y:=hg
     obtain⟨h8,_⟩:=hd
     replace h8:=h8 rfl
     clear hvia
     dsimp only
     rw [show vs 8=_ from h8]
     go_wp2_with fail
     first | exact⟨rfl,_,rfl,za _,rfl⟩ | exact⟨rfl,_,rfl,za _,rfl,trivial⟩
    ·intro vs lo hi y hg hd hvia
     replace hg:Grew wr y:=hg
     obtain⟨h3,h4,h6,h9,_⟩:=hd
     replace h3:=h3 rfl
     replace h4:=h4 rfl
     replace h6:=h6 rfl
     replace h9:=h9 rfl
     clear hvia
     dsimp only
     rw [show vs 3=_ from h3,show vs 4=_ from h4,show vs 6=_ from h6,show vs 9=_ from h9]
     have hgS:=HSY.out y (zJ hg)
     have hKY:=HKY.out y hg
     go_wp2_with(go_at_call 42;refine(CM.out y hgS hKY).mono ?_;rintro e z ⟨⟨A9,c9,rfl,hat9,hfr9⟩,ht9,hk9⟩)
     exact⟨rfl,_,rfl,kp_tn ht9,trivial,⟨A9,c9,rfl,hat9,hg.size,fun ad h=>(at_lt hat9 ad h).imp id (fun h2=>⟨hfr9 ad h,h2⟩)⟩⟩
    ·intro vs lo hi y hg hd hvia
     replace hg:Kp (fun j=>j=p ii+1) wr y:=hg
     obtain⟨h10,_⟩:=hd
     replace h10:=h10 rfl
     have hv9:(fun lo hi v w=>MkS w wr.heap.size S0 lo hi v (fun A c=>.tuple #[.agg (S0.mv A c).C,.int .i64 0])) (lo 10) (hi 10) (vs 10) y:=hvia rfl
     clear hvia
     dsimp only
     obtain⟨A9,c9,e9,hat9,hb9,hr9⟩:=MkS.out hv9
     rw [e9]
     go_wp2_with fail
     exact⟨rfl,_,rfl,za _,⟨A9,⟨c9,rfl⟩⟩,⟨A9,c9,rfl,hat9,hb9,hr9⟩⟩
    ·intro vs lo hi y hg hd hvia
     replace hg:Kp (fun j=>j=p ii+1) wr y:=hg
     obtain⟨h11,_⟩:=hd
     replace h11:=h11 rfl
     have hv9:(fun lo hi v w=>MkS w wr.heap.size S0 lo hi v (fun A c=>.tuple #[.agg (S0.mv A c).C,.int .i64 0])) (lo 11) (hi 11) (vs 11) y:=hvia rfl
     clear hvia
     dsimp only
     obtain⟨A9,c9,e9,hat9,hb9,hr9⟩:=MkS.out hv9
     rw [e9]
     go_wp2_with fail
     exact⟨rfl,_,rfl,za _,⟨A9,c9,rfl,hat9,hb9,hr9⟩⟩
    ·intro vs lo hi y hg hd hvia
     replace hg:Kp (fun j=>j=p ii+1) wr y:=hg
     obtain⟨h11,_⟩:=hd
     replace h11:=h11 rfl
     clear hvia
     dsimp only
     obtain⟨A9,c9,e9⟩:=h11
     rw [e9]
     go_wp2_with fail
     first | exact⟨rfl,_,rfl,za _,rfl⟩ | exact⟨rfl,_,rfl,za _,rfl,trivial⟩
    ·intro vs lo hi y hg hd hvia
     replace hg:Kp (fun j=>j=p ii+1) wr y:=hg
     clear hvia
     dsimp only
     go_wp2_with fail
     exact⟨rfl,_,rfl,ze (za _) _,⟨y.heap.size,rfl,Ag.new y 91 (#[.int .u64 0,.int .i64 0,.int .i64 0,.int .i64 0,.int .i64 0,.int .u64 0,.int .u64 0,.int .u64 0,.int .u64 0,.int .u64 0,.int .u64 0,.int .u64 0,.int .u64 0,.int .u64 0,.int .u64 0,.int .u64 0,.int .u64 0,.int .u64 0,.int .u64 0,.int .u64 0,.int .u64 0,.int .u64 0,.int .u64 0,.slice none 0 0]:Array Value),hg.size,Nat.le_refl _,by show y.heap.size<(y.alloc _).heap.size;simp⟩⟩
   ·refine⟨(fun h=>absurd h (by decide)),(fun h=>absurd h (by decide)),(fun h=>absurd h (by decide)),(fun h=>absurd h (by decide)),(fun h=>absurd h (by decide)),(fun h=>absurd h (by decide)),(fun h=>absurd h (by decide)),(fun h=>absurd h (by decide)),(fun h=>absurd h (by decide)),(fun h=>absurd h (by decide)),(fun h=>absurd h (by decide)),(fun h=>absurd h (by decide)),(fun h=>absurd h (by decide)),?_,(fun h=>absurd h (by decide)),(fun h=>absurd h (by decide)),trivial⟩
    ·intro _ vs y hd
     obtain⟨h11,_⟩:=hd
     replace h11:=h11 rfl
     simp only [actOf,tk1,tk0,dr1,dr0,Act.put,si1,st1,st0,Nat.reduceAdd]
     obtain⟨A9,c9,e9⟩:=h11
     rw [e9]
     go_wp2_with fail
     first | exact⟨rfl,_,rfl,za _,rfl⟩ | exact⟨rfl,_,rfl,za _,rfl,trivial⟩
   ·intro i lo hi v x y hx h hg
    match i,h with
    | 10,h=>exact MkS.kp h hg HSB.out
    | 11,h=>exact MkS.kp h hg HSB.out
    | 12,h=>exact MkS.kp h hg HSB.out
    | 14,h=>exact AgZ.kp h hg HSB.out
    | 0,_=>trivial
    | 1,_=>trivial
    | 2,_=>trivial
    | 3,_=>trivial
    | 4,_=>trivial
    | 5,_=>trivial
    | 6,_=>trivial
    | 7,_=>trivial
    | 8,_=>trivial
    | 9,_=>trivial
    | 13,_=>trivial
    | m+15,_=>trivial
   ·intro vs lo hi y hg hJ hK hB hD
    replace hg:Kp (fun j=>j=p ii+1) wr y:=hg
    have k42:=hK 10 (by decide) rfl
    have b42:=hB 10 (by decide) rfl
    have k31:=hK 11 (by decide) rfl
    have b31:=hB 11 (by decide) rfl
    have k43:=hK 12 (by decide) rfl
    have b43:=hB 12 (by decide) rfl
    have k5:=hK 14 (by decide) rfl
    have b5:=hB 14 (by decide) rfl
    have d42_5:=hD 10 (by decide) rfl 14 (by decide) rfl (by decide)
    have d31_5:=hD 11 (by decide) rfl 14 (by decide) rfl (by decide)
    have d43_5:=hD 12 (by decide) rfl 14 (by decide) rfl (by decide)
    clear hK hB hD
    have j0:vs 0=.slice (some lad) 4 Lc:=hJ 0 (by decide) rfl
    have j1:vs 1=.int .i64 (ii:Int):=hJ 1 (by decide) rfl
    have j2:vs 2=.pointer (some (lad.add ii)):=hJ 2 (by decide) rfl
    have j3:vs 3=.pointer (some ⟨p ii+1,0,none⟩):=hJ 3 (by decide) rfl
    have j4:vs 4=.int .i64 (ii:Int):=hJ 4 (by decide) rfl
    have j5:vs 5=.agg (cm12 0).cells:=hJ 5 (by decide) rfl
    have j6:vs 6=.int .u64 (D:Int):=hJ 6 (by decide) rfl
    have j7:vs 7=.int .i64 (ii:Int):=hJ 7 (by decide) rfl
    have j8:vs 8=.int .i64 (4-(ii:Int)):=hJ 8 (by decide) rfl
    have j9:vs 9=.int .i64 (at12 ii):=hJ 9 (by decide) rfl
    clear hJ
    simp only [actOf,tk1,tk0,dr1,dr0,Act.put,si1,st1,st0,Nat.reduceAdd]
    obtain⟨A1,c1,e43,hat1,hb1,hr1⟩:=MkS.out k43
    obtain⟨q,e5,zq,hBq,hql,hqh⟩:=AgZ.out k5
    rw [e43,e5]
    have HNQ:Hid (∀ ad,A1=some ad→S0.l=[]∨ad.block≠q):=hQ9 (fun ad h=>by
     rcases hr1 ad h with h1 | h1
     ·exact .inl h1
     ·exact .inr (by rcases d43_5 with h2 | h2<;>omega))
    have HLO1:Hid (∀ ad,A1=some ad→S0.l=[]∨wr.heap.size≤ad.block):=hQ9 (fun ad h=>(hr1 ad h).imp id (fun h1=>by omega))
    obtain⟨gs,hgs⟩:∃ g,(S0.mv A1 c1).C=g:=⟨_,rfl⟩
    have hz24:gs.size=24:=by rw [←hgs];rfl
    have HTH:Hid (y.there q 0 gs.size):=hQ9 (zq.thereN gs.size (by rw [hz24];rfl))
    have HSI:Hid ((Tryz.prog.info? 91).map (·.size)=some gs.size):=hQ9 (by rw [hz24];exact zy)
    have HON:Hid (gs.all (·.oneCell')=true):=hQ9 (by rw [←hgs];exact(S0.mv A1 c1).one)
    have z4:=Ag.set (vs:=gs.toList) zq (by rw [Array.length_toList,hz24];rfl)
    have k4:=zG gs.toList q 0 y
    have HF:Hid (StF (fun j=>j=p ii+1) wr S0 (.pointer (some ⟨q,0,none⟩)) (y.setCells q 0 gs.toList)):=hQ9 ⟨A1,c1,q,rfl,by rw [hgs];exact z4,at_kp hat1 k4 (fun ad h=>HNQ.out ad h),by omega,HLO1.out,kp_new hg k4 (by omega)⟩
    rw [hgs]
    clear hgs hg z4 k4 zq hat1
    generalize gs=gs' at *
    go_wp2_with(with_reducible refine wpList_store_mid rfl 91 (.tmp 5) (.tmp 43) rfl q 0 gs' rfl rfl HTH.out HSI.out HON.out ?_)
    exact HF.out
   ·intro vs w4 hF hJ
    have j0:vs 0=.slice (some lad) 4 Lc:=hJ 0 (by decide)
    have j1:vs 1=.int .i64 (ii:Int):=hJ 1 (by decide)
    have j2:vs 2=.pointer (some (lad.add ii)):=hJ 2 (by decide)
    have j3:vs 3=.pointer (some ⟨p ii+1,0,none⟩):=hJ 3 (by decide)
    have j4:vs 4=.int .i64 (ii:Int):=hJ 4 (by decide)
    have j5:vs 5=.agg (cm12 0).cells:=hJ 5 (by decide)
    have j6:vs 6=.int .u64 (D:Int):=hJ 6 (by decide)
    have j7:vs 7=.int .i64 (ii:Int):=hJ 7 (by decide)
    have j8:vs 8=.int .i64 (4-(ii:Int)):=hJ 8 (by decide)
    have j9:vs 9=.int .i64 (at12 ii):=hJ 9 (by decide)
    have j13:vs 13=.int .i64 0:=hJ 13 (by decide)
    clear hJ
    simp only [actOf,tk1,tk0,dr1,dr0,Act.put,si1,st1,st0,Nat.reduceAdd]
    obtain⟨A1,c1,q,e5,z4,hat4,hq4,hlo4,kk⟩:=StF.out hF
    rw [e5,show vs 13=_ from j13]
    have HFR:Hid (∀ ad,A1=some ad→S0.l=[]∨wr.heap.size≤ad.block):=hQ9 hlo4
    obtain⟨gs,hgs⟩:∃ g,(S0.mv A1 c1).C=g:=⟨_,rfl⟩
    rw [hgs]at z4
    have HGS:=hQ9 hgs
    have hz24:gs.size=24:=by rw [←hgs];rfl
    have HSL:Hid ((Tryz.prog.info? 91).map (·.size)=some gs.toList.length):=hQ9 (by rw [Array.length_toList,hz24];exact zy)
    have hbw:=HBW.out
    have hpi:=HPI.out
    have hqb:=HQB.out
    have HAT4:Hid (∀ S∈M,S.at w4):=hQ9 (fun S hS=>at_kp (HAT.out S hS) kk (fun ad h=>(HLW.out S hS ad h).imp id (fun h1 h3=>by omega)))
    have HROW4:=hQ9 (zx HROW.out kk (fun g h h3=>by
     have h1:=zN HROW.out g h
     omega))
    have HKS4:Hid (∀ i,i+(n+1)<4→KyAt w4 (p i+1) (p i) (i:Int) (sdI 3 i) (ksL 3 2 i) 0 (2^2)):=hQ9 (fun i hi=>by
     have h1:=HP.out i (by omega)
     have h2:=HAP.out i ii (by omega) HI4.out (by have:=HIN.out;omega)
     exact(HKS.out i (by omega)).kp kk (fun h=>by omega) (fun h=>by omega))
    have HZK4:=hQ9 (HZK.out.kp kk (fun h=>by omega))
    have HLD4:Hid (∀ i,i<4→w4.cell? (lad.add i)=some (.pointer (some ⟨p i+1,0,none⟩))):=hQ9 (fun i hi=>by
     have h1:=kU (HLD.out i hi)
     rw [zL]at h1
     exact(World.cell?_of_block (by rw [zL];exact kk.block lad.block h1 (FL.out ii HI4.out))).trans (HLD.out i hi))
    have HRR4:=hQ9 ((HRR.out.kp kk (Nat.le_refl _) (fun ad e h1 h=>FR.out ii HI4.out ad e h)).more kk.size)
    have HGG4:=hQ9 (yj HGG.out kk HGG.out.size (fun i (h:i=p ii+1)=>by omega))
    have HBW4:Hid (wr.heap.size≤w4.heap.size):=hQ9 kk.size
    have HAT5:=hQ9 hat4
    have hrow4:=HROW4.out
    have hsz4:=HBW4.out
    have hm4:=z4.cell
    have hqw4:=z4.lt
    have hww:=HGG4.out.size
    clear hF z4 kk hbw hpi hqb hz24 hgs j13 e5 hat4 hq4 hlo4
    clear j0 j1 j2 j3 j4 j5 j6 j7 j8 j9
    clear HAT HKS HZK HLD HRR
    have ga:=ze (za w4) (.cells gs 91)
    have HTS:Hid ((spL M).flatten++gs.toList=(spL (M++[S0.mv A1 c1])).flatten):=hQ9 (by rw [yU,HGS.out])
    have HONE:Hid (∀ u∈gs.toList,u.oneCell'=true):=hQ9 (by rw [←HGS.out];exact(S0.mv A1 c1).one')
    have HLEN:Hid (gs.toList.length=24):=hQ9 (by rw [←HGS.out];rfl)
    have HFOLD:Hid (Array.foldl (fun(cs:Array Value) (x:Value × Nat)=>cs.setIfInBounds x.snd x.fst) (zS24:Array Value) gs.zipIdx 0 24=gs):=hQ9 (by rw [←HGS.out];exact xI (S0.mv A1 c1))
    have hgs24:gs.size=24:=by rw [←HGS.out];rfl
    have hin9:=HIN.out
    have hb9:B0≤w4.heap.size:=by have:=HBW.out;omega
    go_wp2_with(first
     | (with_reducible refine wpList_load_mid rfl 91 (.tmp 5) rfl q 0 rfl gs.toList _ hm4 hut rfl HSL.out ?_;simp only [Array.toArray_toList])
     | (at_builtin;rw [HFOLD.out];refine yn _ rfl (.tmp 47) (.tmp 49) 34 rfl B0 91 i0 (.agg (#[.int .u64 0,.int .i64 0,.int .i64 0,.int .i64 0,.int .i64 0,.int .u64 0,.int .u64 0,.int .u64 0,.int .u64 0,.int .u64 0,.int .u64 0,.int .u64 0,.int .u64 0,.int .u64 0,.int .u64 0,.int .u64 0,.int .u64 0,.int .u64 0,.int .u64 0,.int .u64 0,.int .u64 0,.int .u64 0,.int .u64 0,.slice none 0 0]:Array Value)) 24 208 Tryz.underlying34 hi hz0 hz1 hz2 rfl (by decide) _ _ _ rfl (hrow4.alloc _) ⟨w4.heap.size,0,none⟩ 1 1 gs.toList rfl (by rw [HLEN.out]) (fun j u hj=>yP w4 gs 91 j u hj) HONE.out (by unfold maxLen;omega) (by omega) (by simp;omega) ?_;intro v' w5 hown5 hgrow5 hob5))
    go_roundw
    case rel =>
     have K5:Kp (fun g=>B0≤g) w4 w5:=yI (zJ ga) hgrow5 (fun g e=>.inl (zj hrow4 g e))
     have hpi:=HPI.out
     have hqb:=HQB.out
     have hsz5:=K5.size
     have hob:=zN HROW.out
     refine⟨n+1,M++[S0.mv A1 c1],by omega,(by have h:=HII.out;rw [show(3:Int)-((n+1:Nat):Int)=(ii:Int)-1 by omega]),by omega,by rw [HL12.out];exact HMV.out.snoc S0 A1 c1,?_,?_,?_,?_,by rw [←HTS.out];exact hown5,?_,?_,?_,?_,?_⟩
     ·intro T hT
      rcases List.mem_append.1 hT with h | h
      ·exact HOKM.out T h
      ·obtain rfl:T=S0.mv A1 c1:=by simpa using h
       exact SP.mv_ok HSO.out _ _
     ·intro T hT
      rcases List.mem_append.1 hT with h | h
      ·exact yD ((HAT4.out T h).gr ga) hgrow5 (fun ad e g hg=>HNE.out T h ad e g hg)
      ·obtain rfl:T=S0.mv A1 c1:=by simpa using h
       exact yD (HAT5.out.gr ga) hgrow5 (fun ad e g hg=>by
        rcases HFR.out ad e with h1 | h1
        ·exact .inl h1
        ·have:=(hob g hg).2
         exact .inr (by omega))
     ·intro T hT ad e g hg
      have hlt9:T.l=[]∨ad.block<(w4.alloc (.cells gs 91)).heap.size:=by
       rcases List.mem_append.1 hT with h | h
       ·exact at_lt ((HAT4.out T h).gr ga) ad e
       ·obtain rfl:T=S0.mv A1 c1:=by simpa using h
        exact at_lt (HAT5.out.gr ga) ad e
      rcases hob5 with h3 | h3
      ·rw [h3]at hg
       rcases List.mem_append.1 hT with h | h
       ·exact HNE.out T h ad e g hg
       ·obtain rfl:T=S0.mv A1 c1:=by simpa using h
        rcases HFR.out ad e with h1 | h1
        ·exact .inl h1
        ·have:=(hob g hg).2
         exact .inr (by omega)
      ·rw [h3]at hg;injection hg with hg
       rcases hlt9 with h1 | h1
       ·exact .inl h1
       ·exact .inr (by omega)
     ·intro T hT ad e
      rcases List.mem_append.1 hT with h | h
      ·exact HLW.out T h ad e
      ·obtain rfl:T=S0.mv A1 c1:=by simpa using h
       rcases HFR.out ad e with h1 | h1
       ·exact .inl h1
       ·exact .inr (by have:=HBW.out;omega)
     ·intro i hi
      have h1:=HP.out i (by omega)
      exact(HKS4.out i hi).kp K5 (by omega) (by omega)
     ·exact HZK4.out.kp K5 (by omega)
     ·intro i hi
      have h1:=kU (HLD4.out i hi)
      have h2:=HLB.out
      rw [zL]at h1
      exact(World.cell?_of_block (by rw [zL];exact K5.block lad.block h1 (by omega))).trans (HLD4.out i hi)
     ·exact(HRR4.out.kp K5 (Nat.le_refl _) (fun ad e h1 h=>by have:=HRB.out ad e;omega)).more K5.size
     ·exact yj HGG4.out K5 HGG4.out.size (fun i hi=>by have:=HWB.out;omega)
    case measure=>have h:=HII.out;simp [Go.RowKit.intOf]<;>omega
  ·obtain rfl:n=4:=by omega
   rw [show(3:Int)-((4:Nat):Int)=-1 from rfl]
   obtain⟨B,cap,rfl,hB,hc1,hc2,hbB⟩:=xa hrow (by rw [hmv.len];rfl)
   have hspM:Sps wr B M:=⟨hB,hok,hat⟩
   obtain⟨A0,A1,A2,A3,c0,c1,c2,c3,hM⟩:=l12_mv hmv
   have HM:Hid (M=[sp12 3 A3 c3,sp12 2 A2 c2,sp12 1 A1 c1,sp12 0 A0 c0]):=hQ9 hM
   obtain⟨E,hE⟩:∃ E,[sp12 0 A0 c0,sp12 1 A1 c1,sp12 2 A2 c2]=E:=⟨_,rfl⟩
   have HE:Hid ([sp12 0 A0 c0,sp12 1 A1 c1,sp12 2 A2 c2]=E):=hQ9 hE
   have HE3:Hid (E.length=3):=hQ9 (by rw [←hE];rfl)
   have HM4:Hid (M.length=4):=hQ9 (by rw [hM];rfl)
   have HKM:Hid (∀ y,Grew wr y→y.rangeAt qk 0 kc.toList):=hQ9 (fun y g=>(zk.grew g).cell)
   have HKP:Hid (∀ y,Grew wr y→(kp12 RA Rc).at y):=hQ9 (fun y g=>rRr.gr g)
   have HSP:Hid (∀ y,Grew wr y→Sps y B M):=hQ9 (fun y g=>hspM.gr g)
   have HSY:Hid (∀ y,Grew wr y→Std y):=hQ9 (fun y g=>HS.out.grew (zc hg g))
   have HGWR:=hQ9 hg
   have CC0:=hQ9 (fun W=>zg6 0 W)
   have CC1:=hQ9 (fun W=>zg6 1 W)
   have CM0:Hid (∀ W,Std W→(kp12 RA Rc).at W→Sps W B M→Calls Tryz.prog 34 #[.agg kc,.agg (cm12 0).cells,.slice B 4 cap] W fun e w'=>∃ B k M',e=.returned (.tuple #[.agg (ctC (cm12 0) B 3 k),.int .i64 0])∧MvL E M'∧Sps w' B M'∧(∀ ad,B=some ad→W.heap.size≤ad.block)∧(∀ S∈M',∀ ad,S.A=some ad→S.l=[]∨W.heap.size≤ad.block)∧Grew W w'):=hQ9 (fun W h1 h2 h3=>by
    have:=zm7 (cm12 0) (zad RA Rc) B cap M (by rw [HM4.out];omega) (ok12 0 (by omega)) W h1 h2 h3 (by rw [HM.out];exact zp9 RA Rc A0 A1 A2 A3 c0 c1 c2 c3)
    rw [show chosen (kp12 RA Rc) (dgC (cm12 0)) M=E from by rw [HM.out,zp8];exact HE.out,HKC.out,HE3.out,HM4.out]at this
    exact this)
   have CM1:Hid (∀ W,Std W→(kp12 RA Rc).at W→Sps W B M→Calls Tryz.prog 34 #[.agg kc,.agg (cm12 0).cells,.slice B 2 cap] W fun e w'=>e=.returned (.tuple #[.agg (ctC Cm.zero none 0 0),.int .i64 8])∧Grew W w'):=hQ9 (fun W h1 h2 h3=>by
    have ht:M.take 2=[sp12 3 A3 c3,sp12 2 A2 c2]:=by rw [HM.out];rfl
    have hl2:(M.take 2).length=2:=by rw [ht];rfl
    have:=zco (cm12 0) (zad RA Rc) B cap (M.take 2) (by rw [hl2];omega) (ok12 0 (by omega)) W h1 h2 (h3.take 2) (by rw [ht];exact znp RA Rc A2 A3 c2 c3)
    rw [HKC.out,hl2]at this
    exact this)
   have CM2:Hid (∀ W,Std W→(kp12 RA Rc).at W→Sps W B M→Calls Tryz.prog 34 #[.agg kc,.agg (cm12 1).cells,.slice B 4 cap] W fun e w'=>e=.returned (.tuple #[.agg (ctC Cm.zero none 0 0),.int .i64 8])∧Grew W w'):=hQ9 (fun W h1 h2 h3=>by
    have:=zco (cm12 1) (zad RA Rc) B cap M (by rw [HM4.out];omega) (ok12 1 (by omega)) W h1 h2 h3 (by rw [HM.out];exact znq RA Rc A0 A1 A2 A3 c0 c1 c2 c3)
    rw [HKC.out,HM4.out]at this
    exact this)
   have hcap:(2:Int)≤(cap:Int):=by omega
   clear hrow hmv hok hat hne hlow hks zk hld rRr hspM hM hE hB hc2 hbB hg hB0 hlt hn hi hz0 hz1 hz2
   go_upto_region 12 with fail
   refine xR 8 9 (fun ix9=>match ix9 with
    | 0=>fun v=>v=.agg kc
    | 1=>fun v=>v=.agg (cm12 0).cells
    | 2=>fun v=>v=.slice B 4 cap
    | 3=>fun _=>True
    | 4=>fun v=>∃ A c,v=.tuple #[.agg (ctC (cm12 0) A 3 c),.int .i64 0]
    | 5=>fun _=>True
    | 6=>fun v=>v=.int .i64 0
    | 7=>fun _=>True
    | 8=>fun _=>True
    | _=>fun _=>True) (fun ix9=>match ix9 with
    | 3=>fun lo hi v w=>CtS w wr.heap.size E lo hi v (fun A c=>.tuple #[.agg (ctC (cm12 0) A 3 c),.int .i64 0])
    | 4=>fun lo hi v w=>CtS w wr.heap.size E lo hi v (fun A c=>.tuple #[.agg (ctC (cm12 0) A 3 c),.int .i64 0])
    | 5=>fun lo hi v w=>CtS w wr.heap.size E lo hi v (fun A c=>.agg (ctC (cm12 0) A 3 c))
    | 7=>fun lo hi v w=>AgZ w wr.heap.size lo hi (zS6:Array Value).toList v
    | _=>fun _ _ _ _=>True) (fun ix9=>match ix9 with
    | 4=>3
    | 5=>4
    | ix8=>ix8) (fun ix9=>match ix9 with
    | 4=>3
    | 5=>3
    | ix8=>ix8) (fun ix9=>match ix9 with
    | 6=>true
    | _=>false) 7 (fun v W=>CtF wr (cm12 0) E v W) rfl (by kernel_rfl) (by kernel_rfl) (by kernel_rfl) (by kernel_rfl) rfl rfl (by decide) (fun _=>trivial) ?_ ?_ ?_ ?_ (fun o ho=>by cases ho;rfl) (fun v x y h hg=>CtF.gr h hg) ?_
   ·simp only [actOf,tk1,tk0,dr1,dr0,Act.put,si1,st1,st0,Nat.reduceAdd]
    refine⟨?_,?_,?_,?_,?_,?_,?_,?_,trivial⟩
    ·intro vs lo hi y hg hd hvia
     replace hg:Grew wr y:=hg
     clear hvia
     dsimp only
     have hm:=HKM.out y hg
     go_wp2_with(with_reducible refine wpList_load_mid rfl 50 (.tmp 2) rfl qk 0 rfl kc.toList _ hm hkt rfl HSKL.out ?_;simp only [Array.toArray_toList])
     first | exact⟨rfl,_,rfl,za _,rfl⟩ | exact⟨rfl,_,rfl,za _,rfl,trivial⟩
    ·intro vs lo hi y hg hd hvia
     replace hg:Grew wr y:=hg
     clear hvia
     dsimp only
     go_wp2_with(go_at_call 44;refine(CC0.out y).mono ?_;rintro e z ⟨rfl,gz⟩)
     exact⟨rfl,_,rfl,gz,rfl,trivial⟩
    ·intro vs lo hi y hg hd hvia
     replace hg:Grew wr y:=hg
     clear hvia
     dsimp only
     go_wp2_with fail
     first | exact⟨rfl,_,rfl,za _,rfl⟩ | exact⟨rfl,_,rfl,za _,rfl,trivial⟩
    ·intro vs lo hi y hg hd hvia
     replace hg:Grew wr y:=hg
     obtain⟨h0,h1,h2,_⟩:=hd
     replace h0:=h0 rfl
     replace h1:=h1 rfl
     replace h2:=h2 rfl
     clear hvia
     dsimp only
     rw [show vs 0=_ from h0,show vs 1=_ from h1,show vs 2=_ from h2]
     have hgS:=HSY.out y hg
     have hks:=HKP.out y hg
     have hsp:=HSP.out y hg
     go_wp2_with(go_at_call 34;refine(CM0.out y hgS hks hsp).mono ?_;rintro e z ⟨B9,k9,M9,rfl,hmv9,hsp9,hf1,hf2,gz⟩)
     exact⟨rfl,_,rfl,gz,trivial,⟨B9,k9,M9,rfl,hmv9,hsp9,hg.size,fun ad h=>⟨hf1 ad h,by
      obtain⟨q9,e9,hq9,-⟩:=hsp9.get 0 (by rw [hmv9.len,HE3.out];omega)
      rw [h]at e9;cases e9;exact hq9⟩,fun S hS ad h=>by
      rcases hf2 S hS ad h with h1 | h1
      ·exact .inl h1
      ·exact(at_lt (hsp9.at_ S hS) ad h).imp id (fun h2=>⟨h1,h2⟩)⟩⟩
    ·intro vs lo hi y hg hd hvia
     replace hg:Grew wr y:=hg
     obtain⟨h3,_⟩:=hd
     replace h3:=h3 rfl
     have hv9:(fun lo hi v w=>CtS w wr.heap.size E lo hi v (fun A c=>.tuple #[.agg (ctC (cm12 0) A 3 c),.int .i64 0])) (lo 3) (hi 3) (vs 3) y:=hvia rfl
     clear hvia
     dsimp only
     obtain⟨A9,c9,M9,e9,hr9⟩:=CtS.out hv9
     rw [e9]
     go_wp2_with fail
     exact⟨rfl,_,rfl,za _,⟨A9,⟨c9,rfl⟩⟩,⟨A9,c9,M9,rfl,hr9⟩⟩
    ·intro vs lo hi y hg hd hvia
     replace hg:Grew wr y:=hg
     obtain⟨h4,_⟩:=hd
     replace h4:=h4 rfl
     have hv9:(fun lo hi v w=>CtS w wr.heap.size E lo hi v (fun A c=>.tuple #[.agg (ctC (cm12 0) A 3 c),.int .i64 0])) (lo 4) (hi 4) (vs 4) y:=hvia rfl
     clear hvia
     dsimp only
     obtain⟨A9,c9,M9,e9,hr9⟩:=CtS.out hv9
     rw [e9]
     go_wp2_with fail
     exact⟨rfl,_,rfl,za _,⟨A9,c9,M9,rfl,hr9⟩⟩
    ·intro vs lo hi y hg hd hvia
     replace hg:Grew wr y:=hg
     obtain⟨h4,_⟩:=hd
     replace h4:=h4 rfl
     clear hvia
     dsimp only
     obtain⟨A9,c9,e9⟩:=h4
     rw [e9]
     go_wp2_with fail
     first | exact⟨rfl,_,rfl,za _,rfl⟩ | exact⟨rfl,_,rfl,za _,rfl,trivial⟩
    ·intro vs lo hi y hg hd hvia
     replace hg:Grew wr y:=hg
     clear hvia
     dsimp only
     go_wp2_with fail
     exact⟨rfl,_,rfl,ze (za _) _,⟨y.heap.size,rfl,Ag.new y 36 (#[.int .i64 0,.int .i64 0,.int .i64 0,.int .i64 0,.int .i64 0,.slice none 0 0]:Array Value),hg.size,Nat.le_refl _,by show y.heap.size<(y.alloc _).heap.size;simp⟩⟩
   ·refine⟨(fun h=>absurd h (by decide)),(fun h=>absurd h (by decide)),(fun h=>absurd h (by decide)),(fun h=>absurd h (by decide)),(fun h=>absurd h (by decide)),(fun h=>absurd h (by decide)),?_,(fun h=>absurd h (by decide)),(fun h=>absurd h (by decide)),trivial⟩
    ·intro _ vs y hd
     obtain⟨h4,_⟩:=hd
     replace h4:=h4 rfl
     simp only [actOf,tk1,tk0,dr1,dr0,Act.put,si1,st1,st0,Nat.reduceAdd]
     obtain⟨A9,c9,e9⟩:=h4
     rw [e9]
     go_wp2_with fail
     first | exact⟨rfl,_,rfl,za _,rfl⟩ | exact⟨rfl,_,rfl,za _,rfl,trivial⟩
   ·intro i lo hi v x y h hg
    match i,h with
    | 3,h=>exact CtS.gr h hg
    | 4,h=>exact CtS.gr h hg
    | 5,h=>exact CtS.gr h hg
    | 7,h=>exact AgZ.gr h hg
    | 0,_=>trivial
    | 1,_=>trivial
    | 2,_=>trivial
    | 6,_=>trivial
    | m+8,_=>trivial
   ·intro vs lo hi y hg hJ hK hB hD
    replace hg:Grew wr y:=hg
    have k55:=hK 3 (by decide) rfl
    have b55:=hB 3 (by decide) rfl
    have k51:=hK 4 (by decide) rfl
    have b51:=hB 4 (by decide) rfl
    have k56:=hK 5 (by decide) rfl
    have b56:=hB 5 (by decide) rfl
    have k7:=hK 7 (by decide) rfl
    have b7:=hB 7 (by decide) rfl
    have d55_7:=hD 3 (by decide) rfl 7 (by decide) rfl (by decide)
    have d51_7:=hD 4 (by decide) rfl 7 (by decide) rfl (by decide)
    have d56_7:=hD 5 (by decide) rfl 7 (by decide) rfl (by decide)
    clear hK hB hD
    have j0:vs 0=.agg kc:=hJ 0 (by decide) rfl
    have j1:vs 1=.agg (cm12 0).cells:=hJ 1 (by decide) rfl
    have j2:vs 2=.slice B 4 cap:=hJ 2 (by decide) rfl
    clear hJ
    simp only [actOf,tk1,tk0,dr1,dr0,Act.put,si1,st1,st0,Nat.reduceAdd]
    obtain⟨A7,k7c,M7,e56,hmv7,hsp7,hb7,hr7,hs7⟩:=CtS.out k56
    obtain⟨q,e7,zq,hBq,hql,hqh⟩:=AgZ.out k7
    rw [e56,e7]
    have HTH:Hid (y.there q 0 (ctC (cm12 0) A7 3 k7c).size):=hQ9 (zq.thereN 6 rfl)
    have HSI:Hid ((Tryz.prog.info? 36).map (·.size)=some (ctC (cm12 0) A7 3 k7c).size):=hQ9 zP
    have HON:=hQ9 (yt (cm12 0) A7 3 k7c)
    have z4:=Ag.set (vs:=(ctC (cm12 0) A7 3 k7c).toList) zq rfl
    have k4:=zG (ctC (cm12 0) A7 3 k7c).toList q 0 y
    have hsp8:=hsp7.kpx k4 (fun ad h e=>by have:=hr7 ad h;rcases d56_7 with h2 | h2<;>omega) (fun S hS ad h=>(hs7 S hS ad h).imp id (fun h1 e=>by rcases d56_7 with h2 | h2<;>omega))
    have HF:Hid (CtF wr (cm12 0) E (.pointer (some ⟨q,0,none⟩)) (y.setCells q 0 (ctC (cm12 0) A7 3 k7c).toList)):=hQ9 ⟨A7,k7c,M7,q,rfl,by rw [HE3.out];exact z4,hmv7,hsp8,by omega,fun ad h=>by have:=hr7 ad h;omega,fun S hS ad h=>(hs7 S hS ad h).imp id (fun h1=>by omega),zg (o:=0) (b:=q) _ hg (by omega)⟩
    clear hg z4 k4 zq hsp7 hsp8 hmv7
    generalize ctC (cm12 0) A7 3 k7c=gs' at *
    go_wp2_with(with_reducible refine wpList_store_mid rfl 36 (.tmp 7) (.tmp 56) rfl q 0 gs' rfl rfl HTH.out HSI.out HON.out ?_)
    exact HF.out
   ·intro vs w5 hF hJ
    have j0:vs 0=.agg kc:=hJ 0 (by decide)
    have j1:vs 1=.agg (cm12 0).cells:=hJ 1 (by decide)
    have j2:vs 2=.slice B 4 cap:=hJ 2 (by decide)
    have j6:vs 6=.int .i64 0:=hJ 6 (by decide)
    clear hJ
    simp only [actOf,tk1,tk0,dr1,dr0,Act.put,si1,st1,st0,Nat.reduceAdd]
    obtain⟨A7,k7,M7,q7,e7,z7,hmv7,hsp7,hq7,hlo7,hls7,g5⟩:=CtF.out hF
    rw [e7,show vs 6=_ from j6]
    have HGW:=hQ9 g5
    clear hF e7 j0 j1 j2 j6
    go_upto_region 13 with fail
    refine xR 9 10 (fun ix9=>match ix9 with
     | 0=>fun v=>v=.agg kc
     | 1=>fun v=>v=.agg (cm12 0).cells
     | 2=>fun v=>v=.slice B 4 cap
     | 3=>fun v=>v=.slice B 2 cap
     | 4=>fun v=>v=.tuple #[.agg (ctC Cm.zero none 0 0),.int .i64 8]
     | 5=>fun v=>v=.tuple #[.agg (ctC Cm.zero none 0 0),.int .i64 8]
     | 6=>fun v=>v=.agg (ctC Cm.zero none 0 0)
     | 7=>fun v=>v=.int .i64 8
     | 8=>fun _=>True
     | 9=>fun _=>True
     | _=>fun _=>True) (fun ix9=>match ix9 with
     | 8=>fun lo hi v w=>AgZ w w5.heap.size lo hi (zS6:Array Value).toList v
     | _=>fun _ _ _ _=>True) (fun ix9=>match ix9 with
     | ix8=>ix8) (fun ix9=>match ix9 with
     | ix8=>ix8) (fun ix9=>match ix9 with
     | 7=>true
     | _=>false) 8 (fun _ W=>Grew w5 W) rfl (by kernel_rfl) (by kernel_rfl) (by kernel_rfl) (by kernel_rfl) rfl rfl (by decide) (fun _=>trivial) ?_ ?_ ?_ ?_ (fun o ho=>by cases ho;rfl) (fun v x y h hg=>zc h hg) ?_
    ·simp only [actOf,tk1,tk0,dr1,dr0,Act.put,si1,st1,st0,Nat.reduceAdd]
     refine⟨?_,?_,?_,?_,?_,?_,?_,?_,?_,trivial⟩
     ·intro vs lo hi y hg hd hvia
      replace hg:Grew w5 y:=hg
      clear hvia
      dsimp only
      have hg0:=hg
      replace hg:=zc HGW.out hg0
      have hm:=HKM.out y hg
      go_wp2_with(with_reducible refine wpList_load_mid rfl 50 (.tmp 2) rfl qk 0 rfl kc.toList _ hm hkt rfl HSKL.out ?_;simp only [Array.toArray_toList])
      first | exact⟨rfl,_,rfl,za _,rfl⟩ | exact⟨rfl,_,rfl,za _,rfl,trivial⟩
     ·intro vs lo hi y hg hd hvia
      replace hg:Grew w5 y:=hg
      clear hvia
      dsimp only
      go_wp2_with(go_at_call 44;refine(CC0.out y).mono ?_;rintro e z ⟨rfl,gz⟩)
      exact⟨rfl,_,rfl,gz,rfl,trivial⟩
     ·intro vs lo hi y hg hd hvia
      replace hg:Grew w5 y:=hg
      clear hvia
      dsimp only
      go_wp2_with fail
      first | exact⟨rfl,_,rfl,za _,rfl⟩ | exact⟨rfl,_,rfl,za _,rfl,trivial⟩
     ·intro vs lo hi y hg hd hvia
      replace hg:Grew w5 y:=hg
      obtain⟨h2,_⟩:=hd
      replace h2:=h2 rfl
      clear hvia
      dsimp only
      rw [show vs 2=_ from h2]
      go_wp2_with fail
      first | exact⟨rfl,_,rfl,za _,rfl⟩ | exact⟨rfl,_,rfl,za _,rfl,trivial⟩
     ·intro vs lo hi y hg hd hvia
      replace hg:Grew w5 y:=hg
      obtain⟨h0,h1,h3,_⟩:=hd
      replace h0:=h0 rfl
      replace h1:=h1 rfl
      replace h3:=h3 rfl
      clear hvia
      dsimp only
      rw [show vs 0=_ from h0,show vs 1=_ from h1,show vs 3=_ from h3]
      have hg0:=hg
      replace hg:=zc HGW.out hg0
      have hgS:=HSY.out y hg
      have hks:=HKP.out y hg
      have hsp:=HSP.out y hg
      go_wp2_with(go_at_call 34;refine(CM1.out y hgS hks hsp).mono ?_;rintro e z ⟨rfl,gz⟩)
      exact⟨rfl,_,rfl,gz,rfl,trivial⟩
     ·intro vs lo hi y hg hd hvia
      replace hg:Grew w5 y:=hg
      obtain⟨h4,_⟩:=hd
      replace h4:=h4 rfl
      clear hvia
      dsimp only
      rw [show vs 4=_ from h4]
      go_wp2_with fail
      first | exact⟨rfl,_,rfl,za _,rfl⟩ | exact⟨rfl,_,rfl,za _,rfl,trivial⟩
     ·intro vs lo hi y hg hd hvia
      replace hg:Grew w5 y:=hg
      obtain⟨h5,_⟩:=hd
      replace h5:=h5 rfl
      clear hvia
      dsimp only
      rw [show vs 5=_ from h5]
      go_wp2_with fail
      first | exact⟨rfl,_,rfl,za _,rfl⟩ | exact⟨rfl,_,rfl,za _,rfl,trivial⟩
     ·intro vs lo hi y hg hd hvia
      replace hg:Grew w5 y:=hg
      obtain⟨h5,_⟩:=hd
      replace h5:=h5 rfl
      clear hvia
      dsimp only
      rw [show vs 5=_ from h5]
      go_wp2_with fail
      first | exact⟨rfl,_,rfl,za _,rfl⟩ | exact⟨rfl,_,rfl,za _,rfl,trivial⟩
     ·intro vs lo hi y hg hd hvia
      replace hg:Grew w5 y:=hg
      clear hvia
      dsimp only
      go_wp2_with fail
      exact⟨rfl,_,rfl,ze (za _) _,⟨y.heap.size,rfl,Ag.new y 36 (#[.int .i64 0,.int .i64 0,.int .i64 0,.int .i64 0,.int .i64 0,.slice none 0 0]:Array Value),hg.size,Nat.le_refl _,by show y.heap.size<(y.alloc _).heap.size;simp⟩⟩
    ·refine⟨(fun h=>absurd h (by decide)),(fun h=>absurd h (by decide)),(fun h=>absurd h (by decide)),(fun h=>absurd h (by decide)),(fun h=>absurd h (by decide)),(fun h=>absurd h (by decide)),(fun h=>absurd h (by decide)),?_,(fun h=>absurd h (by decide)),(fun h=>absurd h (by decide)),trivial⟩
     ·intro _ vs y hd
      obtain⟨h5,_⟩:=hd
      replace h5:=h5 rfl
      simp only [actOf,tk1,tk0,dr1,dr0,Act.put,si1,st1,st0,Nat.reduceAdd]
      rw [show vs 5=_ from h5]
      go_wp2_with fail
      first | exact⟨rfl,_,rfl,za _,rfl⟩ | exact⟨rfl,_,rfl,za _,rfl,trivial⟩
    ·intro i lo hi v x y h hg
     match i,h with
     | 8,h=>exact AgZ.gr h hg
     | 0,_=>trivial
     | 1,_=>trivial
     | 2,_=>trivial
     | 3,_=>trivial
     | 4,_=>trivial
     | 5,_=>trivial
     | 6,_=>trivial
     | 7,_=>trivial
     | m+9,_=>trivial
    ·intro vs lo hi y hg hJ hK hB hD
     replace hg:Grew w5 y:=hg
     have k9:=hK 8 (by decide) rfl
     have b9:=hB 8 (by decide) rfl
     clear hK hB hD
     have j0:vs 0=.agg kc:=hJ 0 (by decide) rfl
     have j1:vs 1=.agg (cm12 0).cells:=hJ 1 (by decide) rfl
     have j2:vs 2=.slice B 4 cap:=hJ 2 (by decide) rfl
     have j3:vs 3=.slice B 2 cap:=hJ 3 (by decide) rfl
     have j4:vs 4=.tuple #[.agg (ctC Cm.zero none 0 0),.int .i64 8]:=hJ 4 (by decide) rfl
     have j5:vs 5=.tuple #[.agg (ctC Cm.zero none 0 0),.int .i64 8]:=hJ 5 (by decide) rfl
     have j6:vs 6=.agg (ctC Cm.zero none 0 0):=hJ 6 (by decide) rfl
     clear hJ
     simp only [actOf,tk1,tk0,dr1,dr0,Act.put,si1,st1,st0,Nat.reduceAdd]
     obtain⟨q,e7,zq,hBq,hql,hqh⟩:=AgZ.out k9
     rw [show vs 6=_ from j6,e7]
     have HTH:Hid (y.there q 0 (ctC Cm.zero none 0 0).size):=hQ9 (zq.thereN 6 rfl)
     have HSI:Hid ((Tryz.prog.info? 36).map (·.size)=some (ctC Cm.zero none 0 0).size):=hQ9 zP
     have HON:=hQ9 (yt Cm.zero none 0 0)
     have HF:Hid (Grew w5 (y.setCells q 0 (ctC Cm.zero none 0 0).toList)):=hQ9 (zg (o:=0) (b:=q) _ hg (by omega))
     clear hg zq
     generalize ctC Cm.zero none 0 0=gs' at *
     go_wp2_with(with_reducible refine wpList_store_mid rfl 36 (.tmp 9) (.tmp 64) rfl q 0 gs' rfl rfl HTH.out HSI.out HON.out ?_)
     exact HF.out
    ·intro vs w6 hF hJ
     have j0:vs 0=.agg kc:=hJ 0 (by decide)
     have j1:vs 1=.agg (cm12 0).cells:=hJ 1 (by decide)
     have j2:vs 2=.slice B 4 cap:=hJ 2 (by decide)
     have j3:vs 3=.slice B 2 cap:=hJ 3 (by decide)
     have j4:vs 4=.tuple #[.agg (ctC Cm.zero none 0 0),.int .i64 8]:=hJ 4 (by decide)
     have j5:vs 5=.tuple #[.agg (ctC Cm.zero none 0 0),.int .i64 8]:=hJ 5 (by decide)
     have j6:vs 6=.agg (ctC Cm.zero none 0 0):=hJ 6 (by decide)
     have j7:vs 7=.int .i64 8:=hJ 7 (by decide)
     clear hJ
     simp only [actOf,tk1,tk0,dr1,dr0,Act.put,si1,st1,st0,Nat.reduceAdd]
     have g6:=zc HGW.out hF
     have HGW5:=HGW
     clear HGW
     have HGW:=hQ9 g6
     have g56:=hF
     rw [show vs 7=_ from j7]
     clear g6 hF j0 j1 j2 j3 j4 j5 j6 j7
     go_upto_region 14 with fail
     refine xR 8 9 (fun ix9=>match ix9 with
      | 0=>fun v=>v=.agg kc
      | 1=>fun v=>v=.agg (cm12 1).cells
      | 2=>fun v=>v=.slice B 4 cap
      | 3=>fun v=>v=.tuple #[.agg (ctC Cm.zero none 0 0),.int .i64 8]
      | 4=>fun v=>v=.tuple #[.agg (ctC Cm.zero none 0 0),.int .i64 8]
      | 5=>fun v=>v=.agg (ctC Cm.zero none 0 0)
      | 6=>fun v=>v=.int .i64 8
      | 7=>fun _=>True
      | 8=>fun _=>True
      | _=>fun _=>True) (fun ix9=>match ix9 with
      | 7=>fun lo hi v w=>AgZ w w6.heap.size lo hi (zS6:Array Value).toList v
      | _=>fun _ _ _ _=>True) (fun ix9=>match ix9 with
      | ix8=>ix8) (fun ix9=>match ix9 with
      | ix8=>ix8) (fun ix9=>match ix9 with
      | 6=>true
      | _=>false) 7 (fun _ W=>Grew w6 W) rfl (by kernel_rfl) (by kernel_rfl) (by kernel_rfl) (by kernel_rfl) rfl rfl (by decide) (fun _=>trivial) ?_ ?_ ?_ ?_ (fun o ho=>by cases ho;rfl) (fun v x y h hg=>zc h hg) ?_
     ·simp only [actOf,tk1,tk0,dr1,dr0,Act.put,si1,st1,st0,Nat.reduceAdd]
      refine⟨?_,?_,?_,?_,?_,?_,?_,?_,trivial⟩
      ·intro vs lo hi y hg hd hvia
       replace hg:Grew w6 y:=hg
       clear hvia
       dsimp only
       have hg0:=hg
       replace hg:=zc HGW.out hg0
       have hm:=HKM.out y hg
       go_wp2_with(with_reducible refine wpList_load_mid rfl 50 (.tmp 2) rfl qk 0 rfl kc.toList _ hm hkt rfl HSKL.out ?_;simp only [Array.toArray_toList])
       first | exact⟨rfl,_,rfl,za _,rfl⟩ | exact⟨rfl,_,rfl,za _,rfl,trivial⟩
      ·intro vs lo hi y hg hd hvia
       replace hg:Grew w6 y:=hg
       clear hvia
       dsimp only
       go_wp2_with(go_at_call 44;refine(CC1.out y).mono ?_;rintro e z ⟨rfl,gz⟩)
       exact⟨rfl,_,rfl,gz,rfl,trivial⟩
      ·intro vs lo hi y hg hd hvia
       replace hg:Grew w6 y:=hg
       clear hvia
       dsimp only
       go_wp2_with fail
       first | exact⟨rfl,_,rfl,za _,rfl⟩ | exact⟨rfl,_,rfl,za _,rfl,trivial⟩
      ·intro vs lo hi y hg hd hvia
       replace hg:Grew w6 y:=hg
       obtain⟨h0,h1,h2,_⟩:=hd
       replace h0:=h0 rfl
       replace h1:=h1 rfl
       replace h2:=h2 rfl
       clear hvia
       dsimp only
       rw [show vs 0=_ from h0,show vs 1=_ from h1,show vs 2=_ from h2]
       have hg0:=hg
       replace hg:=zc HGW.out hg0
       have hgS:=HSY.out y hg
       have hks:=HKP.out y hg
       have hsp:=HSP.out y hg
       go_wp2_with(go_at_call 34;refine(CM2.out y hgS hks hsp).mono ?_;rintro e z ⟨rfl,gz⟩)
       exact⟨rfl,_,rfl,gz,rfl,trivial⟩
      ·intro vs lo hi y hg hd hvia
       replace hg:Grew w6 y:=hg
       obtain⟨h3,_⟩:=hd
       replace h3:=h3 rfl
       clear hvia
       dsimp only
       rw [show vs 3=_ from h3]
       go_wp2_with fail
       first | exact⟨rfl,_,rfl,za _,rfl⟩ | exact⟨rfl,_,rfl,za _,rfl,trivial⟩
      ·intro vs lo hi y hg hd hvia
       replace hg:Grew w6 y:=hg
       obtain⟨h4,_⟩:=hd
       replace h4:=h4 rfl
       clear hvia
       dsimp only
       rw [show vs 4=_ from h4]
       go_wp2_with fail
       first | exact⟨rfl,_,rfl,za _,rfl⟩ | exact⟨rfl,_,rfl,za _,rfl,trivial⟩
      ·intro vs lo hi y hg hd hvia
       replace hg:Grew w6 y:=hg
       obtain⟨h4,_⟩:=hd
       replace h4:=h4 rfl
       clear hvia
       dsimp only
       rw [show vs 4=_ from h4]
       go_wp2_with fail
       first | exact⟨rfl,_,rfl,za _,rfl⟩ | exact⟨rfl,_,rfl,za _,rfl,trivial⟩
      ·intro vs lo hi y hg hd hvia
       replace hg:Grew w6 y:=hg
       clear hvia
       dsimp only
       go_wp2_with fail
       exact⟨rfl,_,rfl,ze (za _) _,⟨y.heap.size,rfl,Ag.new y 36 (#[.int .i64 0,.int .i64 0,.int .i64 0,.int .i64 0,.int .i64 0,.slice none 0 0]:Array Value),hg.size,Nat.le_refl _,by show y.heap.size<(y.alloc _).heap.size;simp⟩⟩
     ·refine⟨(fun h=>absurd h (by decide)),(fun h=>absurd h (by decide)),(fun h=>absurd h (by decide)),(fun h=>absurd h (by decide)),(fun h=>absurd h (by decide)),(fun h=>absurd h (by decide)),?_,(fun h=>absurd h (by decide)),(fun h=>absurd h (by decide)),trivial⟩
      ·intro _ vs y hd
       obtain⟨h4,_⟩:=hd
       replace h4:=h4 rfl
       simp only [actOf,tk1,tk0,dr1,dr0,Act.put,si1,st1,st0,Nat.reduceAdd]
       rw [show vs 4=_ from h4]
       go_wp2_with fail
       first | exact⟨rfl,_,rfl,za _,rfl⟩ | exact⟨rfl,_,rfl,za _,rfl,trivial⟩
     ·intro i lo hi v x y h hg
      match i,h with
      | 7,h=>exact AgZ.gr h hg
      | 0,_=>trivial
      | 1,_=>trivial
      | 2,_=>trivial
      | 3,_=>trivial
      | 4,_=>trivial
      | 5,_=>trivial
      | 6,_=>trivial
      | m+8,_=>trivial
     ·intro vs lo hi y hg hJ hK hB hD
      replace hg:Grew w6 y:=hg
      have k11:=hK 7 (by decide) rfl
      have b11:=hB 7 (by decide) rfl
      clear hK hB hD
      have j0:vs 0=.agg kc:=hJ 0 (by decide) rfl
      have j1:vs 1=.agg (cm12 1).cells:=hJ 1 (by decide) rfl
      have j2:vs 2=.slice B 4 cap:=hJ 2 (by decide) rfl
      have j3:vs 3=.tuple #[.agg (ctC Cm.zero none 0 0),.int .i64 8]:=hJ 3 (by decide) rfl
      have j4:vs 4=.tuple #[.agg (ctC Cm.zero none 0 0),.int .i64 8]:=hJ 4 (by decide) rfl
      have j5:vs 5=.agg (ctC Cm.zero none 0 0):=hJ 5 (by decide) rfl
      clear hJ
      simp only [actOf,tk1,tk0,dr1,dr0,Act.put,si1,st1,st0,Nat.reduceAdd]
      obtain⟨q,e7,zq,hBq,hql,hqh⟩:=AgZ.out k11
      rw [show vs 5=_ from j5,e7]
      have HTH:Hid (y.there q 0 (ctC Cm.zero none 0 0).size):=hQ9 (zq.thereN 6 rfl)
      have HSI:Hid ((Tryz.prog.info? 36).map (·.size)=some (ctC Cm.zero none 0 0).size):=hQ9 zP
      have HON:=hQ9 (yt Cm.zero none 0 0)
      have HF:Hid (Grew w6 (y.setCells q 0 (ctC Cm.zero none 0 0).toList)):=hQ9 (zg (o:=0) (b:=q) _ hg (by omega))
      clear hg zq
      generalize ctC Cm.zero none 0 0=gs' at *
      go_wp2_with(with_reducible refine wpList_store_mid rfl 36 (.tmp 11) (.tmp 71) rfl q 0 gs' rfl rfl HTH.out HSI.out HON.out ?_)
      exact HF.out
     ·intro vs w7 hF hJ
      have j0:vs 0=.agg kc:=hJ 0 (by decide)
      have j1:vs 1=.agg (cm12 1).cells:=hJ 1 (by decide)
      have j2:vs 2=.slice B 4 cap:=hJ 2 (by decide)
      have j3:vs 3=.tuple #[.agg (ctC Cm.zero none 0 0),.int .i64 8]:=hJ 3 (by decide)
      have j4:vs 4=.tuple #[.agg (ctC Cm.zero none 0 0),.int .i64 8]:=hJ 4 (by decide)
      have j5:vs 5=.agg (ctC Cm.zero none 0 0):=hJ 5 (by decide)
      have j6:vs 6=.int .i64 8:=hJ 6 (by decide)
      clear hJ
      simp only [actOf,tk1,tk0,dr1,dr0,Act.put,si1,st1,st0,Nat.reduceAdd]
      have g57:=zc g56 hF
      rw [show vs 6=_ from j6]
      have g7:=zc HGW.out hF
      clear g56 hF j0 j1 j2 j3 j4 j5 j6
      rw [←HE.out]at hmv7
      obtain⟨D0,D1,D2,d0,d1,d2,hM7⟩:=e12_mv hmv7
      obtain⟨gb,hA7,hgb,-⟩:=hsp7.get 0 (by rw [hM7];simp)
      subst hA7
      have z8:=z7.grew g57
      rw [HE3.out]at z8
      have HC5:Hid (∀ y,Grew w7 y→y.cell? ⟨q7,5,none⟩=some (.slice (some ⟨gb,0,none⟩) 3 k7)):=hQ9 (fun y g=>by simpa using (z8.grew g).cell 5 _ rfl)
      have HCM:Hid (∀ y,Grew w7 y→y.rangeAt q7 0 (ctC (cm12 0) (some ⟨gb,0,none⟩) 3 k7).toList):=hQ9 (fun y g=>(z8.grew g).cell)
      have HSP7:Hid (∀ y,Grew w7 y→Sps y (some ⟨gb,0,none⟩) M7):=hQ9 (fun y g=>hsp7.gr (zc g57 g))
      have HM7:=hQ9 hM7
      have HGW7:=hQ9 g7
      have HL7:Hid (M7.length=3):=hQ9 (by rw [hM7];rfl)
      have CO3:Hid (∀ A c W,Rd W W.heap.size A (i64L [9,1,5])→Calls Tryz.prog 38 #[.agg #[.int .i64 1],.slice A 3 c] W fun e w'=>e=.returned (.tuple #[.int .i64 5,.int .i64 0])∧Grew W w'):=hQ9 (fun A c W h=>by
       have:=ziw 1 (by omega) A c [9,1,5] (by simp) (fun x hx=>by
        simp only [List.mem_cons,List.not_mem_nil,or_false]at hx
        unfold in64
        omega) W h
       rw [show mdV 1 [9,1,5]=5 from md12_3,show mdE 1 [9,1,5]=0 from rfl]at this
       exact this)
      have CO2:Hid (∀ A c W,Rd W W.heap.size A (i64L [9,1])→Calls Tryz.prog 38 #[.agg #[.int .i64 1],.slice A 2 c] W fun e w'=>e=.returned (.tuple #[.int .i64 0,.int .i64 8])∧Grew W w'):=hQ9 (fun A c W h=>by
       have:=ziw 1 (by omega) A c [9,1] (by simp) (fun x hx=>by
        simp only [List.mem_cons,List.not_mem_nil,or_false]at hx
        unfold in64
        omega) W h
       rw [show mdV 1 [9,1]=0 from rfl,show mdE 1 [9,1]=8 from rfl]at this
       exact this)
      have hc5:=HC5.out w7 (za _)
      clear hmv7 hM7 hgb z7 z8 hsp7 g57 g7
      go_wp2_with fail
      clear hc5
      refine(CO3.out _ _ _ ((zM w7 2 #[.int .i64 9,.int .i64 1,.int .i64 5] (0,0)).more (by simp))).mono ?_
      rintro e w8 ⟨rfl,gg⟩
      have g8:Grew w7 w8:=zc (ze (za _) _) gg
      clear gg
      go_wp2_with fail
      refine(CO2.out _ _ _ ((zM w8 2 #[.int .i64 9,.int .i64 1] (0,0)).more (by simp))).mono ?_
      rintro e w9 ⟨rfl,gg⟩
      have g9:Grew w7 w9:=zc g8 (zc (ze (za _) _) gg)
      clear gg g8 CO2 CO3
      obtain⟨cd,hcd⟩:∃ c,ctC (cm12 0) (some ⟨gb,0,none⟩) 3 k7=c:=⟨_,rfl⟩
      have HCD:=hQ9 hcd
      obtain⟨wA,hwA,htA,gA,zA⟩:=yz w9 36 (zS6:Array Value) cd (by rw [←hcd];rfl)
      have HWA:=hQ9 hwA
      have HTA:=hQ9 htA
      have HSI:Hid ((Tryz.prog.info? 36).map (·.size)=some cd.size):=hQ9 (by rw [←hcd];exact zP)
      have HSIL:Hid ((Tryz.prog.info? 36).map (·.size)=some cd.toList.length):=hQ9 (by rw [←hcd];exact zP)
      have HON:Hid (cd.all (·.oneCell')=true):=hQ9 (by rw [←hcd];exact yt _ _ _ _)
      have hmc:=HCM.out w9 g9
      rw [hcd]at hmc HCM
      clear hcd hwA htA
      go_upto_region 20 with (first
       | (with_reducible refine wpList_load_mid rfl 36 (.tmp 7) rfl q7 0 rfl cd.toList _ hmc hct rfl HSIL.out ?_;simp only [Array.toArray_toList])
       | (with_reducible refine wpList_store_mid rfl 36 (.tmp 17) (.tmp 93) rfl w9.heap.size 0 cd rfl rfl HTA.out HSI.out HON.out ?_;rw [HWA.out]))
      have gA7:=zc g9 gA
      have HQ17:Hid (w9.heap.size<wA.heap.size):=hQ9 zA.lt
      have HQ9:Hid (w7.heap.size≤w9.heap.size):=hQ9 g9.size
      generalize w9.heap.size=q17 at *
      have HC5A:Hid (∀ y,Grew wA y→y.cell? ⟨q7,5,none⟩=some (.slice (some ⟨gb,0,none⟩) 3 k7)):=hQ9 (fun y g=>HC5.out y (zc gA7 g))
      obtain⟨T0,hT0⟩:∃ S,sp12 0 D0 d0=S:=⟨_,rfl⟩
      obtain⟨T1,hT1⟩:∃ S,sp12 1 D1 d1=S:=⟨_,rfl⟩
      obtain⟨T2,hT2⟩:∃ S,sp12 2 D2 d2=S:=⟨_,rfl⟩
      have HT0:=hQ9 hT0
      have HT1:=hQ9 hT1
      have HT2:=hQ9 hT2
      have hM9:=HM7.out
      rw [hT0,hT1,hT2]at hM9
      clear hT0 hT1 hT2
      subst hM9
      have hrg:∀ k (hk:k<3) y,Grew wA y→y.rangeAt gb (k*24) ([T0,T1,T2][k]).C.toList:=fun k hk y g=>by
       obtain⟨q,e,_,h⟩:=(HSP7.out y (zc gA7 g)).get k (by simpa using hk)
       cases e;exact h
      have HR0:Hid (∀ y,Grew wA y→y.rangeAt gb 0 T0.C.toList):=hQ9 (fun y g=>hrg 0 (by omega) y g)
      have HR1:Hid (∀ y,Grew wA y→y.rangeAt gb 24 T1.C.toList):=hQ9 (fun y g=>hrg 1 (by omega) y g)
      have HR2:Hid (∀ y,Grew wA y→y.rangeAt gb 48 T2.C.toList):=hQ9 (fun y g=>hrg 2 (by omega) y g)
      have SI0:Hid ((Tryz.prog.info? 91).map (·.size)=some T0.C.toList.length):=hQ9 zy
      have SI1:Hid ((Tryz.prog.info? 91).map (·.size)=some T1.C.toList.length):=hQ9 zy
      have SI2:Hid ((Tryz.prog.info? 91).map (·.size)=some T2.C.toList.length):=hQ9 zy
      have HGWA:=hQ9 gA7
      clear hrg g9 gA gA7 hmc
      refine zH 13 (fun ix9=>match ix9 with
       | 0=>fun v _=>v=.pointer (some ⟨q7,5,none⟩)
       | 1=>fun v _=>v=.slice (some ⟨gb,0,none⟩) 3 k7
       | 2=>fun v _=>v=.pointer (some ⟨gb,24,none⟩)
       | 3=>fun v _=>v=.agg T1.C
       | 4=>fun v _=>v=.pointer (some ⟨q7,5,none⟩)
       | 5=>fun v _=>v=.slice (some ⟨gb,0,none⟩) 3 k7
       | 6=>fun v _=>v=.pointer (some ⟨gb,0,none⟩)
       | 7=>fun v _=>v=.agg T0.C
       | 8=>fun v _=>v=.pointer (some ⟨q7,5,none⟩)
       | 9=>fun v _=>v=.slice (some ⟨gb,0,none⟩) 3 k7
       | 10=>fun v _=>v=.pointer (some ⟨gb,48,none⟩)
       | 11=>fun v _=>v=.agg T2.C
       | 12=>fun v w=>BsR w wA.heap.size [T1,T0,T2] v
       | _=>fun _ _=>True) (by kernel_rfl) (by kernel_rfl) ?_ ?_ ?_
      ·intro i v x y h hg
       match i,h with
       | 0,h | 1,h | 2,h | 3,h | 4,h | 5,h | 6,h | 7,h | 8,h | 9,h | 10,h | 11,h=>exact h
       | 12,h=>exact BsR.gr h hg
       | m+13,_=>trivial
      ·simp only [actOf,tk1,tk0,dr1,dr0,Act.put,si1,st1,st0,Nat.reduceAdd]
       refine⟨?_,?_,?_,?_,?_,?_,?_,?_,?_,?_,?_,?_,?_,trivial⟩
       ·intro vs y hg hd
        dsimp only
        go_wp2_with fail
        exact⟨rfl,_,rfl,za _,rfl⟩
       ·intro vs y hg hd
        obtain⟨h0,_⟩:=hd
        replace h0:=h0 rfl
        dsimp only
        rw [show vs 0=_ from h0]
        have hc:=HC5A.out y hg
        go_wp2_with fail
        exact⟨rfl,_,rfl,za _,rfl⟩
       ·intro vs y hg hd
        obtain⟨h1,_⟩:=hd
        replace h1:=h1 rfl
        dsimp only
        rw [show vs 1=_ from h1]
        go_wp2_with fail
        exact⟨rfl,_,rfl,za _,rfl⟩
       ·intro vs y hg hd
        obtain⟨h2,_⟩:=hd
        replace h2:=h2 rfl
        dsimp only
        rw [show vs 2=_ from h2]
        have hm:=HR1.out y hg
        go_wp2_with(with_reducible refine wpList_load_mid rfl 91 (.tmp 96) rfl gb 24 rfl T1.C.toList _ hm hut rfl SI1.out ?_;simp only [Array.toArray_toList])
        exact⟨rfl,_,rfl,za _,rfl⟩
       ·intro vs y hg hd
        dsimp only
        go_wp2_with fail
        exact⟨rfl,_,rfl,za _,rfl⟩
       ·intro vs y hg hd
        obtain⟨h4,_⟩:=hd
        replace h4:=h4 rfl
        dsimp only
        rw [show vs 4=_ from h4]
        have hc:=HC5A.out y hg
        go_wp2_with fail
        exact⟨rfl,_,rfl,za _,rfl⟩
       ·intro vs y hg hd
        obtain⟨h5,_⟩:=hd
        replace h5:=h5 rfl
        dsimp only
        rw [show vs 5=_ from h5]
        go_wp2_with fail
        exact⟨rfl,_,rfl,za _,rfl⟩
       ·intro vs y hg hd
        obtain⟨h6,_⟩:=hd
        replace h6:=h6 rfl
        dsimp only
        rw [show vs 6=_ from h6]
        have hm:=HR0.out y hg
        go_wp2_with(with_reducible refine wpList_load_mid rfl 91 (.tmp 100) rfl gb 0 rfl T0.C.toList _ hm hut rfl SI0.out ?_;simp only [Array.toArray_toList])
        exact⟨rfl,_,rfl,za _,rfl⟩
       ·intro vs y hg hd
        dsimp only
        go_wp2_with fail
        exact⟨rfl,_,rfl,za _,rfl⟩
       ·intro vs y hg hd
        obtain⟨h8,_⟩:=hd
        replace h8:=h8 rfl
        dsimp only
        rw [show vs 8=_ from h8]
        have hc:=HC5A.out y hg
        go_wp2_with fail
        exact⟨rfl,_,rfl,za _,rfl⟩
       ·intro vs y hg hd
        obtain⟨h9,_⟩:=hd
        replace h9:=h9 rfl
        dsimp only
        rw [show vs 9=_ from h9]
        go_wp2_with fail
        exact⟨rfl,_,rfl,za _,rfl⟩
       ·intro vs y hg hd
        obtain⟨h10,_⟩:=hd
        replace h10:=h10 rfl
        dsimp only
        rw [show vs 10=_ from h10]
        have hm:=HR2.out y hg
        go_wp2_with(with_reducible refine wpList_load_mid rfl 91 (.tmp 104) rfl gb 48 rfl T2.C.toList _ hm hut rfl SI2.out ?_;simp only [Array.toArray_toList])
        exact⟨rfl,_,rfl,za _,rfl⟩
       ·intro vs y hg hd
        obtain⟨h3,h7,h11,_⟩:=hd
        replace h3:=h3 rfl
        replace h7:=h7 rfl
        replace h11:=h11 rfl
        dsimp only
        rw [show vs 3=_ from h3,show vs 7=_ from h7,show vs 11=_ from h11]
        refine zct rfl [T1,T0,T2] #[(0,.tmp 97),(1,.tmp 101),(2,.tmp 105)] rfl (by simp) (by simp) (by simp [Act.eval,List.zipIdx_cons]) ?_
        exact⟨rfl,_,rfl,ze (za _) _,zsr y [T1,T0,T2] _ hg.size⟩
      ·intro vs wB hg hJ
       have j0:vs 0=.pointer (some ⟨q7,5,none⟩):=hJ 0 (by decide)
       have j1:vs 1=.slice (some ⟨gb,0,none⟩) 3 k7:=hJ 1 (by decide)
       have j2:vs 2=.pointer (some ⟨gb,24,none⟩):=hJ 2 (by decide)
       have j3:vs 3=.agg T1.C:=hJ 3 (by decide)
       have j4:vs 4=.pointer (some ⟨q7,5,none⟩):=hJ 4 (by decide)
       have j5:vs 5=.slice (some ⟨gb,0,none⟩) 3 k7:=hJ 5 (by decide)
       have j6:vs 6=.pointer (some ⟨gb,0,none⟩):=hJ 6 (by decide)
       have j7:vs 7=.agg T0.C:=hJ 7 (by decide)
       have j8:vs 8=.pointer (some ⟨q7,5,none⟩):=hJ 8 (by decide)
       have j9:vs 9=.slice (some ⟨gb,0,none⟩) 3 k7:=hJ 9 (by decide)
       have j10:vs 10=.pointer (some ⟨gb,48,none⟩):=hJ 10 (by decide)
       have j11:vs 11=.agg T2.C:=hJ 11 (by decide)
       have s106:=hJ 12 (by decide)
       clear hJ
       simp only [actOf,tk1,tk0,dr1,dr0,Act.put,si1,st1,st0,Nat.reduceAdd]
       obtain⟨b7,j9,hrd,hb7⟩:=BsR.out s106
       rw [show([T1,T0,T2]:List SP).length=3 from rfl]at j9
       rw [j9]
       have zB:=zA.grew hg
       have gB:=zc HGWA.out hg
       have c5:wB.cell? ⟨q17,5,none⟩=some (.slice (some ⟨gb,0,none⟩) 3 k7):=by simpa using zB.cell 5 (.slice (some ⟨gb,0,none⟩) 3 k7) (by rw [←HCD.out];rfl)
       have f5:wB.frozen? ⟨q17,5,none⟩=false:=by simpa using (zB.there 5 (by rw [←HCD.out];show 5<6;decide)).2
       have t6:=qA (g:=q17) (qY _ wB) (p:=⟨q17,5,none⟩) (.inl rfl) (.slice (some ⟨b7,0,none⟩) 3 3)
       have zC:=Ag.set1 zB 5 (.slice (some ⟨b7,0,none⟩) 3 3) (by rw [←HCD.out];show 5<6;decide)
       obtain⟨cdd,hcdd⟩:∃ c,ctC (cm12 0) (some ⟨b7,0,none⟩) 3 3=c:=⟨_,rfl⟩
       have HCDD:=hQ9 hcdd
       rw [show cd.toList.set 5 (.slice (some ⟨b7,0,none⟩) 3 3)=cdd.toList from by rw [←HCD.out,←hcdd];rfl]at zC
       have gC:=zdb gB t6 HQ9.out
       have hrdC:=hrd.kp (kp_tn t6) (fun q e (h:q=q17)=>by cases e;have:=HQ17.out;omega)
       obtain⟨wC,hwC⟩:∃ v,wB.setCell ⟨q17,5,none⟩ (.slice (some ⟨b7,0,none⟩) 3 3)=v:=⟨_,rfl⟩
       rw [hwC]at zC gC hrdC t6
       have HWC:=hQ9 hwC
       have hs7:=HSP7.out wC gC
       have hspC:Sps wC (some ⟨b7,0,none⟩) [T1,T0,T2]:=⟨hrdC,fun S hS=>hs7.ok S (by simp only [List.mem_cons,List.not_mem_nil,or_false]at hS ⊢;rcases hS with h | h | h<;>simp [h]),fun S hS=>hs7.at_ S (by simp only [List.mem_cons,List.not_mem_nil,or_false]at hS ⊢;rcases hS with h | h | h<;>simp [h])⟩
       have HCC:Hid (∀ y,Grew wC y→y.rangeAt q7 0 cd.toList):=hQ9 (fun y g=>HCM.out y (zc gC g))
       have HCX:Hid (∀ y,Grew wC y→y.rangeAt q17 0 cdd.toList):=hQ9 (fun y g=>(zC.grew g).cell)
       have HSPD:Hid (∀ y,Grew wC y→Sps y (some ⟨b7,0,none⟩) [T1,T0,T2]):=hQ9 (fun y g=>hspC.gr g)
       have HSPC:Hid (∀ y,Grew wC y→Sps y (some ⟨gb,0,none⟩) [T0,T1,T2]):=hQ9 (fun y g=>HSP7.out y (zc gC g))
       have HSYC:Hid (∀ y,Grew wC y→Std y):=hQ9 (fun y g=>HSY.out y (zc HGW7.out (zc gC g)))
       have HKPC:Hid (∀ y,Grew wC y→(kp12 RA Rc).at y):=hQ9 (fun y g=>HKP.out y (zc HGW7.out (zc gC g)))
       have HKMC:Hid (∀ y,Grew wC y→y.rangeAt qk 0 kc.toList):=hQ9 (fun y g=>HKM.out y (zc HGW7.out (zc gC g)))
       have HC5C:Hid (∀ y,Grew wC y→y.cell? ⟨q7,5,none⟩=some (.slice (some ⟨gb,0,none⟩) 3 k7)):=hQ9 (fun y g=>HC5.out y (zc gC g))
       have HGC:Hid (Grew w wC):=hQ9 (zc (zc HGWR.out HGW7.out) gC)
       have HMX:Hid (∀ y,Grew wC y→5<y.heap.size):=hQ9 (fun y g=>by
        have h1:=(zc HGC.out g).size
        exact Nat.lt_of_lt_of_le HG8.out h1)
       have HW0:Hid (∀ y,Grew wC y→y.cell? ⟨gb,1,none⟩=some (.int .i64 0)):=hQ9 (fun y g=>by
        obtain⟨q,e,_,h⟩:=(HSPC.out y g).get 0 (by simp)
        cases e
        exact h 1 _ (by rw [←HT0.out];rfl))
       have HW2:Hid (∀ y,Grew wC y→y.cell? ⟨gb,49,none⟩=some (.int .i64 2)):=hQ9 (fun y g=>by
        obtain⟨q,e,_,h⟩:=(HSPC.out y g).get 2 (by simp)
        cases e
        exact h 1 _ (by rw [←HT2.out];rfl))
       have HK0:Hid (kp12 RA Rc).ok:=hQ9 (zad RA Rc)
       have hcin:=ky (ok12 0 (by omega))
       have HGD:Hid (∀ S∈[T0,T1,T2],S.gd):=hQ9 (fun S hS=>by
        simp only [List.mem_cons,List.not_mem_nil,or_false]at hS
        rcases hS with h | h | h
        ·rw [h,←HT0.out];exact zdr 0 (by omega) _ _
        ·rw [h,←HT1.out];exact zdr 1 (by omega) _ _
        ·rw [h,←HT2.out];exact zdr 2 (by omega) _ _)
       obtain⟨tx,htx⟩:∃ t:ByteArray,(⟨(ctTx (cm12 0) [T0,T1,T2]).toArray⟩:ByteArray)=t:=⟨_,rfl⟩
       have HTX:Hid (tx.data.toList=ctTx (cm12 0) [T0,T1,T2]):=hQ9 (by rw [←htx])
       have HTZ:Hid (tx.size≤1000000):=hQ9 (by
        rw [←htx]
        show(ctTx (cm12 0) [T0,T1,T2]).toArray.size≤1000000
        rw [List.size_toArray,←HT0.out,←HT1.out,←HT2.out]
        exact ctTx12 D0 D1 D2 d0 d1 d2)
       have CT:Hid (∀ W,Grew wC W→Calls Tryz.prog 20 #[.agg cd] W fun e w'=>e=.returned (.string tx)∧Grew W w'):=hQ9 (fun W g=>by
        have:=qQ (cm12 0) hcin (some ⟨gb,0,none⟩) k7 [T0,T1,T2] (by simp) W (HSYC.out W g) (HSPC.out W g)
        rw [htx,show([T0,T1,T2]:List SP).length=3 from rfl,HCD.out]at this
        exact this)
       have CP:Hid (∀ W,Grew wC W→Calls Tryz.prog 19 #[.string tx] W fun e w'=>(∃ B k M,e=.returned (.tuple #[.agg (ctC (cm12 0) B 3 k),.int .i64 0])∧MvL M [T0,T1,T2]∧Sps w' B M)∧Grew W w'):=hQ9 (fun W g =>
        (zcs tx HTZ.out W (HSYC.out W g) (HMX.out W g)).mono fun e w' h=>by
         have hp:parCt tx.data.toList=.ok (cm12 0,[T0,T1,T2].map SP.tx):=by
          rw [HTX.out]
          exact zqa (ok12 0 (by omega)) _ HGD.out (by simp)
         obtain⟨B,k,M,h1,h2,h3⟩:=h.yes _ _ hp
         obtain⟨M',h4,h5⟩:=zqb h2 HGD.out h3
         exact⟨⟨B,k,M',h1,zqd h4,h5⟩,h.gr⟩)
       have CAC:Hid (∀ W,Grew wC W→Calls Tryz.prog 26 #[.agg cd] W fun e w'=>e=.returned (.int .i64 30)∧Grew W w'):=hQ9 (fun W g=>by
        have:=zdh (cm12 0) (some ⟨gb,0,none⟩) k7 [T0,T1,T2] (by simp) W (HSPC.out W g)
        rw [show atV [T0,T1,T2]=30 from by rw [←HT0.out,←HT1.out,←HT2.out];exact at12_c D0 D1 D2 d0 d1 d2,show([T0,T1,T2]:List SP).length=3 from rfl,HCD.out]at this
        exact this)
       have CAD:Hid (∀ W,Grew wC W→Calls Tryz.prog 26 #[.agg cdd] W fun e w'=>e=.returned (.int .i64 30)∧Grew W w'):=hQ9 (fun W g=>by
        have:=zdh (cm12 0) (some ⟨b7,0,none⟩) 3 [T1,T0,T2] (by simp) W (HSPD.out W g)
        rw [show atV [T1,T0,T2]=30 from by rw [←HT0.out,←HT1.out,←HT2.out];exact at12_d D0 D1 D2 d0 d1 d2,show([T1,T0,T2]:List SP).length=3 from rfl,HCDD.out]at this
        exact this)
       have CVC:Hid (∀ W,Grew wC W→Calls Tryz.prog 23 #[.agg kc,.agg cd] W fun e w'=>e=.returned (.int .i64 0)∧Grew W w'):=hQ9 (fun W g=>by
        have:=jU (cm12 0) HK0.out (some ⟨gb,0,none⟩) k7 [T0,T1,T2] (by simp) W (HSYC.out W g) (HKPC.out W g) (HSPC.out W g)
        rw [show mvE (kp12 RA Rc) (cm12 0) [T0,T1,T2]=0 from by rw [←HT0.out,←HT1.out,←HT2.out];exact mv12_c RA Rc D0 D1 D2 d0 d1 d2,show([T0,T1,T2]:List SP).length=3 from rfl,HCD.out,HKC.out]at this
        exact this)
       have CVD:Hid (∀ W,Grew wC W→Calls Tryz.prog 23 #[.agg kc,.agg cdd] W fun e w'=>e=.returned (.int .i64 10)∧Grew W w'):=hQ9 (fun W g=>by
        have:=jU (cm12 0) HK0.out (some ⟨b7,0,none⟩) 3 [T1,T0,T2] (by simp) W (HSYC.out W g) (HKPC.out W g) (HSPD.out W g)
        rw [show mvE (kp12 RA Rc) (cm12 0) [T1,T0,T2]=10 from by rw [←HT0.out,←HT1.out,←HT2.out];exact mv12_d RA Rc D0 D1 D2 d0 d1 d2,show([T1,T0,T2]:List SP).length=3 from rfl,HCDD.out,HKC.out]at this
        exact this)
       have CSN:Hid (∀ W,Grew wC W→Calls Tryz.prog 32 #[.agg cdd,.agg cd] W fun e w'=>e=.returned (.bool false)∧Grew W w'):=hQ9 (fun W g=>by
        have:=znt (cm12 0) (some ⟨b7,0,none⟩) (some ⟨gb,0,none⟩) 3 k7 [T1,T0,T2] [T0,T1,T2] (by simp) rfl T1 T0 rfl rfl (by rw [←HT0.out,←HT1.out];rfl) (by rw [←HT0.out,←HT1.out];show((1:Nat):Int)≠((0:Nat):Int);decide) W (HSPD.out W g) (HSPC.out W g)
        rw [show([T1,T0,T2]:List SP).length=3 from rfl,HCDD.out,HCD.out]at this
        exact this)
       have CDC:Hid (∀ W,Grew wC W→Calls Tryz.prog 28 #[.agg cd] W fun e w'=>e=.returned (.int .u64 9702888124108024343)∧Grew W w'):=hQ9 (fun W g=>by
        have:=jp (cm12 0) hcin (some ⟨gb,0,none⟩) k7 [T0,T1,T2] (by simp) W (HSYC.out W g) (HSPC.out W g)
        rw [show ctD (cm12 0) [T0,T1,T2]=9702888124108024343 from by rw [←HT0.out,←HT1.out,←HT2.out];exact ctD12 D0 D1 D2 d0 d1 d2,show([T0,T1,T2]:List SP).length=3 from rfl,HCD.out]at this
        exact this)
       have CDD:Hid (∀ W,Grew wC W→Calls Tryz.prog 28 #[.agg cdd] W fun e w'=>e=.returned (.int .u64 4472664578534680490)∧Grew W w'):=hQ9 (fun W g=>by
        have:=jp (cm12 0) hcin (some ⟨b7,0,none⟩) 3 [T1,T0,T2] (by simp) W (HSYC.out W g) (HSPD.out W g)
        rw [show ctD (cm12 0) [T1,T0,T2]=4472664578534680490 from by rw [←HT0.out,←HT1.out,←HT2.out];exact ctD12d D0 D1 D2 d0 d1 d2,show([T1,T0,T2]:List SP).length=3 from rfl,HCDD.out]at this
        exact this)
       have HSLD:Hid ((Tryz.prog.info? 36).map (·.size)=some cdd.toList.length):=hQ9 (by rw [←hcdd];exact zP)
       have hm7:=HCC.out wC (za _)
       clear zA zB gB hg t6 zC gC hrdC hrd hwC hs7 hspC htx hcin hcdd j0 j1 j2 j3 j4 j5 j6 j7 j8 j9 j10 j11
       clear HC5 HCM HSP7 HKM HKP HSP HSY CM0 CM1 CM2 CC0 CC1 HR0 HR1 HR2 hb7 s106
       go_upto_region 21 with fail
       rw [HWC.out]
       clear c5 f5 HWC
       go_wp2_with(first
        | (with_reducible refine wpList_load_mid rfl 36 (.tmp 7) rfl q7 0 rfl cd.toList _ hm7 hct rfl HSIL.out ?_;simp only [Array.toArray_toList]))
       refine(CT.out wC (za _)).mono ?_
       rintro e wD ⟨rfl,gD⟩
       clear hm7
       go_wp2_with fail
       refine(CP.out wD gD).mono ?_
       rintro e wE ⟨⟨BX,kX,MX,rfl,hmvX,hspX⟩,gE⟩
       have gE:=zc gD gE
       obtain⟨cx,hcx⟩:∃ c,ctC (cm12 0) BX 3 kX=c:=⟨_,rfl⟩
       have hlX:MX.length=3:=hmvX.len.symm
       have CSY:Hid (∀ W,Grew wC W→Grew wE W→Calls Tryz.prog 32 #[.agg cx,.agg cd] W fun e w'=>e=.returned (.bool true)∧Grew W w'):=hQ9 (fun W g g2=>by
        have:=zcq (cm12 0) BX (some ⟨gb,0,none⟩) kX k7 MX [T0,T1,T2] (by omega) hmvX W (hspX.gr g2) (HSPC.out W g)
        rw [hlX,hcx,HCD.out]at this
        exact this)
       obtain⟨wF,hwF,htF,gF,zF⟩:=yz wE 36 (zS6:Array Value) cx (by rw [←hcx];rfl)
       have HWF:=hQ9 hwF
       have HTF:=hQ9 htF
       have HSX:Hid ((Tryz.prog.info? 36).map (·.size)=some cx.size):=hQ9 (by rw [←hcx];exact zP)
       have HSXL:Hid ((Tryz.prog.info? 36).map (·.size)=some cx.toList.length):=hQ9 (by rw [←hcx];exact zP)
       have HOX:Hid (cx.all (·.oneCell')=true):=hQ9 (by rw [←hcx];exact yt _ _ _ _)
       rw [hcx]
       clear hwF htF hcx hlX hmvX hspX gD
       go_upto_region 22 with (first
        | (with_reducible refine wpList_store_mid rfl 36 (.tmp 18) (.tmp 112) rfl wE.heap.size 0 cx rfl rfl HTF.out HSX.out HOX.out ?_;rw [HWF.out]))
       have GF:=zc gE gF
       have HEF:=hQ9 gF
       have HCY:Hid (∀ y,Grew wF y→y.rangeAt wE.heap.size 0 cx.toList):=hQ9 (fun y g=>(zF.grew g).cell)
       generalize wE.heap.size=q18 at *
       have Y7:Hid (∀ y:Gr wF,y.val.rangeAt q7 0 cd.toList):=hQ9 (fun y=>HCC.out y.val (zc GF y.ok))
       have Y17:Hid (∀ y:Gr wF,y.val.rangeAt q17 0 cdd.toList):=hQ9 (fun y=>HCX.out y.val (zc GF y.ok))
       have Y18:Hid (∀ y:Gr wF,y.val.rangeAt q18 0 cx.toList):=hQ9 (fun y=>HCY.out y.val y.ok)
       have YK:Hid (∀ y:Gr wF,y.val.rangeAt qk 0 kc.toList):=hQ9 (fun y=>HKMC.out y.val (zc GF y.ok))
       have hc5:∀ y:Gr wF,y.val.cell? ⟨q7,5,none⟩=some (.slice (some ⟨gb,0,none⟩) 3 k7):=fun y=>HC5C.out y.val (zc GF y.ok)
       have hw0:∀ y:Gr wF,y.val.cell? ⟨gb,1,none⟩=some (.int .i64 0):=fun y=>HW0.out y.val (zc GF y.ok)
       have hw2:∀ y:Gr wF,y.val.cell? ⟨gb,49,none⟩=some (.int .i64 2):=fun y=>HW2.out y.val (zc GF y.ok)
       have XAC:=hQ9 (fun y:Gr wF=>CAC.out y.val (zc GF y.ok))
       have XAD:=hQ9 (fun y:Gr wF=>CAD.out y.val (zc GF y.ok))
       have XVC:=hQ9 (fun y:Gr wF=>CVC.out y.val (zc GF y.ok))
       have XVD:=hQ9 (fun y:Gr wF=>CVD.out y.val (zc GF y.ok))
       have XSY:=hQ9 (fun y:Gr wF=>CSY.out y.val (zc GF y.ok) (zc HEF.out y.ok))
       have XSN:=hQ9 (fun y:Gr wF=>CSN.out y.val (zc GF y.ok))
       have XDC:=hQ9 (fun y:Gr wF=>CDC.out y.val (zc GF y.ok))
       have XDD:=hQ9 (fun y:Gr wF=>CDD.out y.val (zc GF y.ok))
       clear zF gF gE HWF HTF
       clear HCY HKMC HC5C HW0 HW2 CAC CAD CVC CVD CSY CSN CDC CDD CT CP
       simp only [List.append_eq,List.cons_append,List.nil_append]
       refine zo (za wF) (by kernel_rfl) (by kernel_rfl) ?_
       repeat (first
        | (go_big_quiet_want;refine zw 36 (.tmp 7) rfl q7 0 rfl cd.toList _ Y7.out hct rfl HSIL.out ?_;simp only [Act.put,List.setIfInBounds_toArray,List.set_cons_succ,List.set_cons_zero,Array.toArray_toList];go_big_quiet_on)
        | (go_big_quiet_want;refine zw 36 (.tmp 17) rfl q17 0 rfl cdd.toList _ Y17.out hct rfl HSLD.out ?_;simp only [Act.put,List.setIfInBounds_toArray,List.set_cons_succ,List.set_cons_zero,Array.toArray_toList];go_big_quiet_on)
        | (go_big_quiet_want;refine zw 36 (.tmp 18) rfl q18 0 rfl cx.toList _ Y18.out hct rfl HSXL.out ?_;simp only [Act.put,List.setIfInBounds_toArray,List.set_cons_succ,List.set_cons_zero,Array.toArray_toList];go_big_quiet_on)
        | (go_big_quiet_want;refine zw 50 (.tmp 2) rfl qk 0 rfl kc.toList _ YK.out hkt rfl HSKL.out ?_;simp only [Act.put,List.setIfInBounds_toArray,List.set_cons_succ,List.set_cons_zero,Array.toArray_toList];go_big_quiet_on)
        | (go_big_quiet_step (first
         | (go_at_call_of 26 (Value.agg cdd);exact callG (XAD.out _))
         | (go_at_call 26;exact callG (XAC.out _))
         | (go_at_call_of 23 (Value.agg cdd);exact callG (XVD.out _))
         | (go_at_call 23;exact callG (XVC.out _))
         | (go_at_call_of 32 (Value.agg cdd);exact callG (XSN.out _))
         | (go_at_call 32;exact callG (XSY.out _))
         | (go_at_call_of 28 (Value.agg cdd);exact callG (XDD.out _))
         | (go_at_call 28;exact callG (XDC.out _)))))
       refine wpQuiet_nil ?_
       rintro wG ⟨⟨wG',gG⟩,rfl⟩
       go_wp2_with fail
       go_ret
       exact⟨rfl,zc HGC.out (zc GF gG)⟩
theorem kn12 (w:World) (hS:Std w):Calls Tryz.prog 15 #[] w fun e w'=>e=.returned (.bool true)∧Grew w w':=by
 obtain⟨m,h⟩:=hS.mx
 exact zkz w hS (jw h)
end Go.Proofs.YtpppegnojmnicaaGreatDoor
