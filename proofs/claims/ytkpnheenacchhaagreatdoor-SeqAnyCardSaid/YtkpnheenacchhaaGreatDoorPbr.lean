/- What a region made, between two sizes of the heap. -/
import Derived.Test.YtkpnheenacchhaaGreatDoorPzz
import Derived.Great.BuildSlice
import Derived.Test.YtkpnheenacchhaaGreatDoorPbq
import Derived.Test.YtkpnheenacchhaaGreatDoorPbp
import Derived.Test.YtkpnheenacchhaaGreatDoorPal
import Derived.Test.YtkpnheenacchhaaGreatDoorPbj
import Derived.Test.YtkpnheenacchhaaGreatDoorPbm
set_option maxHeartbeats 8000000
set_option maxRecDepth 100000
set_option linter.unusedSimpArgs false
set_option linter.unusedVariables false
namespace Go.Proofs.YtkpnheenacchhaaGreatDoor
open Go.RowKit
theorem at_kp {S:SP} {P:Nat→Prop} {w w':World} (h:S.at w) (k:Kp P w w') (hn:∀ ad,S.A=some ad→S.l=[]∨¬P ad.block):S.at w':=by
 by_cases hl:S.l=[]
 ·intro j hj;rw [hl]at hj;exact absurd hj (by simp [u64L])
 ·exact(Rd.kp h k (zN9 _) (fun ad e _=>by
   rcases hn ad e with h1 | h1
   ·exact absurd h1 hl
   ·exact h1)).more k.size
structure MkS (w:World) (B:Nat) (S0:SP) (lo hi:Nat) (v:Value) (f:Option Addr→Nat→Value):Prop where
 out:∃ A c,v=f A c∧(S0.mv A c).at w∧B≤lo∧(∀ ad,A=some ad→S0.l=[]∨(lo≤ad.block∧ad.block<hi))
theorem MkS.kp {P:Nat→Prop} {w w':World} {B:Nat} {S0:SP} {lo hi:Nat} {v:Value} {f:Option Addr→Nat→Value} (h:MkS w B S0 lo hi v f) (k:Kp P w w') (hp:∀ g,P g→g<B):MkS w' B S0 lo hi v f:=by
 obtain⟨A,c,h1,h2,h3,h4⟩:=h.out
 refine⟨A,c,h1,at_kp h2 k (fun ad e=>?_),h3,h4⟩
 rcases h4 ad e with h5 | h5
 ·exact .inl h5
 ·exact .inr (fun h6=>by have:=hp _ h6;omega)
theorem MkS.gr {w w':World} {B:Nat} {S0:SP} {lo hi:Nat} {v:Value} {f:Option Addr→Nat→Value} (h:MkS w B S0 lo hi v f) (k:Grew w w'):MkS w' B S0 lo hi v f:=h.kp (P:=fun _=>False) (zF k) (fun _ h=>h.elim)
structure AgZ (w:World) (B lo hi:Nat) (cs:List Value) (v:Value):Prop where
 out:∃ q,v=.pointer (some ⟨q,0,none⟩)∧Ag w q cs∧B≤lo∧lo≤q∧q<hi
theorem AgZ.kp {P:Nat→Prop} {w w':World} {B lo hi:Nat} {cs:List Value} {v:Value} (h:AgZ w B lo hi cs v) (k:Kp P w w') (hp:∀ g,P g→g<B):AgZ w' B lo hi cs v:=by
 obtain⟨q,h1,h2,h3,h4,h5⟩:=h.out
 exact⟨q,h1,h2.kp k (fun h6=>by have:=hp _ h6;omega),h3,h4,h5⟩
theorem AgZ.gr {w w':World} {B lo hi:Nat} {cs:List Value} {v:Value} (h:AgZ w B lo hi cs v) (k:Grew w w'):AgZ w' B lo hi cs v:=h.kp (P:=fun _=>False) (zF k) (fun _ h=>h.elim)
structure CtS (w:World) (B:Nat) (L:List SP) (lo hi:Nat) (v:Value) (f:Option Addr→Nat→Value):Prop where
 out:∃ A c M,v=f A c∧MvL L M∧Sps w A M∧B≤lo∧(∀ ad,A=some ad→lo≤ad.block∧ad.block<hi)∧(∀ S∈M,∀ ad,S.A=some ad→S.l=[]∨(lo≤ad.block∧ad.block<hi))
theorem CtS.gr {w w':World} {B:Nat} {L:List SP} {lo hi:Nat} {v:Value} {f:Option Addr→Nat→Value} (h:CtS w B L lo hi v f) (k:Grew w w'):CtS w' B L lo hi v f:=by
 obtain⟨A,c,M,h1,h2,h3,h4⟩:=h.out
 exact⟨A,c,M,h1,h2,h3.gr k,h4⟩
theorem zbh {P:Nat→Prop} {a b c:World} {q:Nat} (h:Kp P a b) (k:Kp (fun j=>j=q) b c) (hq:a.heap.size≤q):Kp P a c :=
 ⟨k.os.trans h.os,k.tape.trans h.tape,k.output.trans h.output,Nat.le_trans h.size k.size,fun i hi hn=>(k.block i (Nat.lt_of_lt_of_le hi h.size) (fun e=>by have e2:i=q:=e;omega)).trans (h.block i hi hn)⟩
structure StF (P:Nat→Prop) (w0:World) (S0:SP) (v:Value) (W:World):Prop where
 out:∃ A c q,v=.pointer (some ⟨q,0,none⟩)∧Ag W q (S0.mv A c).C.toList∧(S0.mv A c).at W∧w0.heap.size≤q∧(∀ ad,A=some ad→S0.l=[]∨w0.heap.size≤ad.block)∧Kp P w0 W
theorem StF.gr {P:Nat→Prop} {w0:World} {S0:SP} {v:Value} {x y:World} (h:StF P w0 S0 v x) (g:Grew x y):StF P w0 S0 v y:=by
 obtain⟨A,c,q,h1,h2,h3,h4,h5,h6⟩:=h.out
 exact⟨A,c,q,h1,h2.grew g,h3.gr g,h4,h5,yo h6 (zF g)⟩
structure CtF (w0:World) (cm:Cm) (L:List SP) (v:Value) (W:World):Prop where
 out:∃ A c M q,v=.pointer (some ⟨q,0,none⟩)∧Ag W q (ctC cm A L.length c).toList∧MvL L M∧Sps W A M∧w0.heap.size≤q∧(∀ ad,A=some ad→w0.heap.size≤ad.block)∧(∀ S∈M,∀ ad,S.A=some ad→S.l=[]∨w0.heap.size≤ad.block)∧Grew w0 W
theorem CtF.gr {w0:World} {cm:Cm} {L:List SP} {v:Value} {x y:World} (h:CtF w0 cm L v x) (g:Grew x y):CtF w0 cm L v y:=by
 obtain⟨A,c,M,q,h1,h2,h3,h4,h5,h6,h7,h8⟩:=h.out
 exact⟨A,c,M,q,h1,h2.grew g,h3,h4.gr g,h5,h6,h7,zb h8 g⟩
structure BsR (w:World) (B:Nat) (L:List SP) (v:Value):Prop where
 out:∃ b,v=.slice (some ⟨b,0,none⟩) L.length L.length∧RdC w (some ⟨b,0,none⟩) 24 (spL L)∧B≤b
theorem BsR.gr {w w':World} {B:Nat} {L:List SP} {v:Value} (h:BsR w B L v) (g:Grew w w'):BsR w' B L v:=by
 obtain⟨b,h1,h2,h3⟩:=h.out
 exact⟨b,h1,h2.gr g,h3⟩
noncomputable def cS (seed:Int) (m D:Nat) (tf:Nat→Int) (n:Nat):List SP:=(List.range n).map (fun j=>stpK seed 2 j m D (tf j) none 0)
section
variable (seed : Int) (RA : Option Addr) (Rc m D : Nat) (tf : Nat → Int) (hm : m < 4) (ht : ∀ i, i < 4 → tmB (tf i) = true) (A0 A1 A2 A3 : Option Addr) (c0 c1 c2 c3 : Nat)
include hm ht
end
def Dsj (u v:Value):Prop:=∀ g,u.ownBlock=some g→v.ownBlock≠some g
theorem Dsj.symm {u v:Value} (h:Dsj u v):Dsj v u:=fun g h1 h2=>h g h2 h1
structure MkY (w:World) (B b p:Nat) (who sd:Int) (l:List Nat) (nx rs:Nat) (S0:SP) (lo hi:Nat) (v:Value) (f:Option Addr→Nat→Value):Prop where
 sk:MkS w B S0 lo hi v f
 ky:KyAt w b p who sd l nx rs
theorem MkY.gr {w w':World} {B b p:Nat} {who sd:Int} {l:List Nat} {nx rs:Nat} {S0:SP} {lo hi:Nat} {v:Value} {f:Option Addr→Nat→Value} (h:MkY w B b p who sd l nx rs S0 lo hi v f) (g:Grew w w'):MkY w' B b p who sd l nx rs S0 lo hi v f:=⟨h.sk.gr g,h.ky.grew g⟩
structure StY (P:Nat→Prop) (w0:World) (S0:SP) (b p:Nat) (who sd:Int) (l:List Nat) (nx rs:Nat) (v:Value) (W:World):Prop where
 st:StF P w0 S0 v W
 ky:KyAt W b p who sd l nx rs
theorem StY.gr {P:Nat→Prop} {w0:World} {S0:SP} {b p:Nat} {who sd:Int} {l:List Nat} {nx rs:Nat} {v:Value} {x y:World} (h:StY P w0 S0 b p who sd l nx rs v x) (g:Grew x y):StY P w0 S0 b p who sd l nx rs v y:=⟨h.st.gr g,h.ky.grew g⟩
theorem zgd (seed:Int) (h u:Nat) (hh:Hid (h≤4)) (hu:Hid (u<2^h)) (cn t0:Int) (hcn:Hid (0≤cn∧cn≤1048576)) (ht:Hid (1≤t0∧t0≤1099511627700)) (D:Nat) (HDE:Hid (dgC (cm12 cn)=D)) (w0:World) (hS:Std w0) (p:Nat→Nat) (lad:Addr) (Lc:Nat) (RA:Option Addr) (Rc:Nat) (w:World) (g0:Grew w0 w)
 (hks:∀ i,i<4→KyAt w (p i+1) (p i) (i:Int) (sdI seed i) (ksL seed h i) u (2^h))
 (hap:∀ i j,i<4→j<4→i≠j→p i≠p j∧p i+1≠p j∧p i≠p j+1)
 (hlow:∀ i,i<4→w0.heap.size≤p i+1)
 (hld:∀ i,i<4→w.cell? (lad.add i)=some (.pointer (some ⟨p i+1,0,none⟩)))
 (fl:∀ i,i<4→lad.block≠p i+1) (fr:∀ i,i<4→∀ ad,RA=some ad→ad.block≠p i+1)
 (hRr:Rd w w.heap.size RA (u64L (rtL seed h 4))) :
 Calls Tryz.prog 54 #[.slice (some lad) 4 Lc,.agg (kyS 1 RA 4 Rc (h:Int)),.agg (cm12 cn).cells,.int .i64 t0] w fun e w' =>
  (∃ B k M,e=.returned (.tuple #[.agg (ctC (cm12 cn) B 3 k),.bool true])∧MvL [spG seed h u D t0 0 none 0,spG seed h u D t0 1 none 0,spG seed h u D t0 2 none 0] M∧Sps w' B M∧(∀ ad,B=some ad→w.heap.size≤ad.block)∧(∀ S∈M,∀ ad,S.A=some ad→S.l=[]∨w.heap.size≤ad.block))∧Kp (fun j=>∃ i,i<4∧j=p i+1) w w'∧(∀ i,i<4→KyAt w' (p i+1) (p i) (i:Int) (sdI seed i) (ksL seed h i) (u+1) (2^h)):=by
 have HS:=hQ9 hS
 have hkt:=Tryz.underlying91
 have hut:=Tryz.underlying157
 have hct:=Tryz.underlying43
 have hcm:=Tryz.underlying40
 obtain⟨i0,hi,hz0,hz1,hz2⟩:=info_parts qc
 obtain⟨kc,hkc⟩:∃ v,kyS 1 RA 4 Rc (h:Int)=v:=⟨_,rfl⟩
 have HSKL:Hid (zI9 91=some (kyS 1 RA 4 Rc (h:Int)).toList.length):=hQ9 (by kernel_rfl)
 have HSCL:Hid (zI9 40=some (cm12 cn).cells.toList.length):=hQ9 (show _=some 5 by kernel_rfl)
 have HKC:Hid ((kpH seed h RA Rc).C=kyS 1 RA 4 Rc (h:Int)):=hQ9 (by show kyS 1 RA (rtL seed h 4).length Rc (h:Int)=_;rw [xG])
 have HP:Hid (∀ i,i<4→w0.heap.size≤p i+1∧p i+1<w.heap.size∧p i<w.heap.size):=hQ9 (fun i hi=>⟨hlow i hi,(hks i hi).key.lt,(hks i hi).pub.lt⟩)
 have HAP:=hQ9 hap
 have FL:=hQ9 fl
 have FR:=hQ9 fr
 have HLB:Hid (lad.block<w.heap.size):=hQ9 (by have:=yy (hld 0 (by decide));rwa [zy]at this)
 have HRB:Hid (∀ ad,RA=some ad→ad.block<w.heap.size):=hQ9 (fun ad e=>by
  obtain⟨ad2,e2,hb,_⟩:=hRr 0 (by simp [u64L,xG])
  rw [e]at e2;cases e2;exact hb)
 rw [hkc]at HSKL HKC ⊢
 have zk:=((Ag.new w 91 kc).grew (ze (za _) (.cells (cm12 cn).cells 40))).grew (ze (za _) (.cells (zS6:Array Value) 43))
 have zc:=(Ag.new (w.alloc (.cells kc 91)) 40 (cm12 cn).cells).grew (ze (za _) (.cells (zS6:Array Value) 43))
 have zt:=Ag.new ((w.alloc (.cells kc 91)).alloc (.cells (cm12 cn).cells 40)) 43 (zS6:Array Value)
 rw [zl]at zc
 rw [zl,zl]at zt
 have ga:=ze (ze (ze (za w) (.cells kc 91)) (.cells (cm12 cn).cells 40)) (.cells (zS6:Array Value) 43)
 have hsa:(((w.alloc (.cells kc 91)).alloc (.cells (cm12 cn).cells 40)).alloc (.cells (zS6:Array Value) 43)).heap.size=w.heap.size+1+1+1:=by rw [zl,zl,zl]
 obtain⟨wa,hwa⟩:∃ v,((w.alloc (.cells kc 91)).alloc (.cells (cm12 cn).cells 40)).alloc (.cells (zS6:Array Value) 43)=v:=⟨_,rfl⟩
 rw [hwa]at zk zc zt ga hsa
 have HWA:=hQ9 hwa
 obtain⟨B0,hB0⟩:∃ b,wa.heap.size=b:=⟨_,rfl⟩
 have HBE:Hid (B0=w.heap.size+1+1+1):=hQ9 (by rw [←hB0,hsa])
 have hown0:wa.ownsRow B0 157 24 (.slice none 0 0) 0 (spL []).flatten:=World.ownsRow_nil _ _ _ _
 have HKS:Hid (∀ i,i<4→KyAt wa (p i+1) (p i) (i:Int) (sdI seed i) (ksL seed h i) u (2^h)):=hQ9 (fun i hi=>(hks i hi).grew ga)
 have HLD:Hid (∀ i,i<4→wa.cell? (lad.add i)=some (.pointer (some ⟨p i+1,0,none⟩))):=hQ9 (fun i hi=>(ga.cell (p:=lad.add i) (yy (hld i hi))).trans (hld i hi))
 have rR2:=hRr.gr ga
 have GA:=zb g0 ga
 have KA:Kp (fun j=>∃ i,i<4∧j=p i+1) w wa:=zF ga
 have HBB:=hQ9 (show B0≤wa.heap.size by omega)
 clear hS hkc hks hap hlow hld fl fr hRr hsa ga g0 hB0 hwa
 go_enter Tryz.func54,Tryz.ntmps54
 go_wp2_with fail
 rw [HWA.out]
 clear HWA
 go_loopw [10,11] (fun rv iv wr=>∃(n:Nat) (M:List SP),n≤4∧iv=.int .i64 (n:Int)∧B0≤wr.heap.size∧MvL (lG seed h u D t0 n) M∧(∀ S∈M,S.ok)∧(∀ S∈M,S.at wr)∧(∀ S∈M,∀ ad,S.A=some ad→∀ g,rv.ownBlock=some g→S.l=[]∨ad.block≠g)∧(∀ S∈M,∀ ad,S.A=some ad→S.l=[]∨B0≤ad.block)∧wr.ownsRow B0 157 24 rv n (spL M).flatten∧(∀ i,n≤i→i<4→KyAt wr (p i+1) (p i) (i:Int) (sdI seed i) (ksL seed h i) u (2^h))∧(∀ i,i<n→KyAt wr (p i+1) (p i) (i:Int) (sdI seed i) (ksL seed h i) (u+1) (2^h))∧Ag wr w.heap.size kc.toList∧Ag wr (w.heap.size+1) (cm12 cn).cells.toList∧Ag wr (w.heap.size+1+1) (zS6:Array Value).toList∧(∀ i,i<4→wr.cell? (lad.add i)=some (.pointer (some ⟨p i+1,0,none⟩)))∧Rd wr wr.heap.size RA (u64L (rtL seed h 4))∧Kp (fun j=>∃ i,i<4∧j=p i+1) w wr∧Grew w0 wr) (fun _ iv _=>(4-(Go.RowKit.intOf iv)).toNat)
 case atStart=>exact⟨0,[],by omega,rfl,HBB.out,by simpa [lG]using MvL.nil,by simp,by simp,by simp,by simp,hown0,fun i _ hi=>HKS.out i hi,fun i hi=>absurd hi (by omega),zk,zc,zt,HLD.out,rR2,KA,GA⟩
 case round =>
  clear HKS HLD zk zc zt rR2 GA KA hown0 HBB
  obtain⟨n,M,hn,rfl,hB0,hmv,hok,hat,hne,hlow,hrow,hks,hk1,zk,zc,zt,hld,rRr,hkp,hg⟩:=hrel
  by_cases hlt:n<4
  ·obtain⟨ii,hii⟩:∃ ii:Nat,ii=n:=⟨n,rfl⟩
   rw [←hii]
   have h0:(0:Int)≤(ii:Int):=by omega
   have h4:(ii:Int)<4:=by omega
   have hi4:ii<4:=by omega
   have e32:IntKind.i64.wrap (t0+(ii:Int))=t0+(ii:Int):=IntWalk.i64_in _ (by have:=ht.out;omega)
   have e21:IntKind.i64.wrap ((ii:Int)+1)=(ii:Int)+1:=IntWalk.i64_in _ (by omega)
   have HD:Hid (D<18446744073709551616):=hQ9 (by rw [←HDE.out];exact xe _ _)
   have HPI:=hQ9 (HP.out ii hi4)
   have HSB:Hid (∀ g,(fun j=>j=p ii+1) g→g<wr.heap.size):=hQ9 (fun g h=>by
    have h1:g=p ii+1:=h
    have:=HPI.out;have:=HBE.out;omega)
   have HSY:Hid (∀ y,Kp (fun j=>j=p ii+1) wr y→Std y):=hQ9 (fun y k=>HS.out.grew (zV hg k hg.size (fun i (hi:i=p ii+1)=>by have:=HPI.out;omega)))
   have HLC:Hid (∀ y,Kp (fun j=>j=p ii+1) wr y→y.cell? (lad.add ii)=some (.pointer (some ⟨p ii+1,0,none⟩))):=hQ9 (fun y k=>(World.cell?_of_block (by rw [zy];exact k.block lad.block (by have:=yy (hld ii hi4);rwa [zy]at this) (FL.out ii hi4))).trans (hld ii hi4))
   have HCM:Hid (∀ y,Kp (fun j=>j=p ii+1) wr y→y.rangeAt (w.heap.size+1) 0 (cm12 cn).cells.toList):=hQ9 (fun y k=>(zc.kp k (fun h=>by have h:w.heap.size+1=p ii+1:=h;have:=HPI.out;omega)).cell)
   have HKY:Hid (∀ y,Grew wr y→KyAt y (p ii+1) (p ii) (ii:Int) (sdI seed ii) (ksL seed h ii) u (2^h)):=hQ9 (fun y k=>(hks ii (by omega) hi4).grew k)
   have CD:=hQ9 (fun W h=>jZ (cm12 cn) (xj (ok12 cn hcn.out)) W h)
   rw [HDE.out,show(cm12 cn).v=.agg (cm12 cn).cells from rfl]at CD
   obtain⟨S0,hS0⟩:∃ S,spG seed h u D t0 ii none 0=S:=⟨_,rfl⟩
   have CM:Hid (∀ W,Std W→KyAt W (p ii+1) (p ii) (ii:Int) (sdI seed ii) (ksL seed h ii) u (2^h)→Calls Tryz.prog 122 #[.pointer (some ⟨p ii+1,0,none⟩),.int .i64 (ii:Int),.int .u64 (D:Int),.int .i64 (t0+(ii:Int))] W fun e w' =>
    (∃ A c,e=.returned (.tuple #[.agg (S0.mv A c).C,.int .i64 0])∧(S0.mv A c).at w'∧(∀ ad,A=some ad→W.heap.size≤ad.block))∧Tn (p ii+1) W w'∧KyAt w' (p ii+1) (p ii) (ii:Int) (sdI seed ii) (ksL seed h ii) (u+1) (2^h)):=hQ9 (fun W h1 h2=>by
    have:=zpj seed h ii u hh.out hi4 hu.out (p ii) D HD.out (t0+(ii:Int)) ⟨by have:=ht.out;omega,by have:=ht.out;omega⟩ (decide_eq_true (by have:=ht.out;omega)) W h1 h2
    rw [←hS0]
    exact this)
   have HL14:Hid (lG seed h u D t0 (n+1)=lG seed h u D t0 n++[S0]):=hQ9 (by rw [←hS0,zpt,hii])
   have HSO:Hid S0.ok:=hQ9 (by rw [←hS0];exact spG_ok seed h u hh.out hu.out D t0 ht.out HD.out ii hi4 none 0)
   have HII:=hQ9 hii
   have HMV:=hQ9 hmv
   have HOKM:=hQ9 hok
   have HAT:=hQ9 hat
   have HNE:=hQ9 hne
   have HLW:=hQ9 hlow
   have HROW:=hQ9 hrow
   have HKS:=hQ9 hks
   have HK1:=hQ9 hk1
   have HZK:=hQ9 zk
   have HZC:=hQ9 zc
   have HZT:=hQ9 zt
   have HLD:=hQ9 hld
   have HRR:=hQ9 rRr
   have HGG:=hQ9 hg
   have HKP:=hQ9 hkp
   have HBW:=hQ9 hB0
   have HI4:=hQ9 hi4
   clear hS0 hii hmv hok hat hne hlow hrow hks hk1 zk zc zt hld rRr hg hkp hB0 hlt hn
   go_upto_region 5 with fail
   refine xa 15 16 10 (fun j=>j=p ii+1) (fun ix9=>match ix9 with
    | 0=>fun v=>v=.slice (some lad) 4 Lc
    | 1=>fun v=>v=.int .i64 (ii:Int)
    | 2=>fun v=>v=.pointer (some (lad.add ii))
    | 3=>fun v=>v=.pointer (some ⟨p ii+1,0,none⟩)
    | 4=>fun v=>v=.int .i64 (ii:Int)
    | 5=>fun v=>v=.agg (cm12 cn).cells
    | 6=>fun v=>v=.int .u64 (D:Int)
    | 7=>fun v=>v=.int .i64 t0
    | 8=>fun v=>v=.int .i64 (ii:Int)
    | 9=>fun v=>v=.int .i64 (t0+(ii:Int))
    | 10=>fun _=>True
    | 11=>fun v=>∃ A c,v=.tuple #[.agg (S0.mv A c).C,.int .i64 0]
    | 12=>fun _=>True
    | 13=>fun v=>v=.int .i64 0
    | 14=>fun _=>True
    | 15=>fun _=>True
    | _=>fun _=>True) (fun ix9=>match ix9 with
    | 10=>fun lo hi v w=>MkY w wr.heap.size (p ii+1) (p ii) (ii:Int) (sdI seed ii) (ksL seed h ii) (u+1) (2^h) S0 lo hi v (fun A c=>.tuple #[.agg (S0.mv A c).C,.int .i64 0])
    | 11=>fun lo hi v w=>MkS w wr.heap.size S0 lo hi v (fun A c=>.tuple #[.agg (S0.mv A c).C,.int .i64 0])
    | 12=>fun lo hi v w=>MkS w wr.heap.size S0 lo hi v (fun A c=>.agg (S0.mv A c).C)
    | 14=>fun lo hi v w=>AgZ w wr.heap.size lo hi (zS24:Array Value).toList v
    | _=>fun _ _ _ _=>True) (fun ix9=>match ix9 with
    | 11=>10
    | 12=>11
    | ix8=>ix8) (fun ix9=>match ix9 with
    | 11=>10
    | 12=>10
    | ix8=>ix8) (fun ix9=>match ix9 with
    | 13=>true
    | _=>false) 14 (fun v W=>StY (fun j=>j=p ii+1) wr S0 (p ii+1) (p ii) (ii:Int) (sdI seed ii) (ksL seed h ii) (u+1) (2^h) v W) rfl (by kernel_rfl) (by kernel_rfl) (by kernel_rfl) (by kernel_rfl) rfl rfl (by decide) (fun _=>trivial) ?_ ?_ ?_ ?_ ?_ (fun o ho=>by cases ho;rfl) (fun v x y h hg=>StY.gr h hg) ?_
   ·simp only [actOf,tk1,tk0,dr1,dr0,Act.put,si1,st1,st0,Nat.reduceAdd]
    refine⟨?_,?_,?_,?_,?_,?_,?_,?_,?_,?_,?_,?_,?_,?_,?_,trivial⟩
    ·intro vs lo hi y hg hd hvia
     replace hg:Kp (fun j=>j=p ii+1) wr y:=hg
     clear hvia
     dsimp only
     go_wp2_with fail
     first | exact⟨rfl,_,rfl,za _,rfl⟩ | exact⟨rfl,_,rfl,za _,rfl,trivial⟩
    ·intro vs lo hi y hg hd hvia
     replace hg:Kp (fun j=>j=p ii+1) wr y:=hg
     clear hvia
     dsimp only
     go_wp2_with fail
     first | exact⟨rfl,_,rfl,za _,rfl⟩ | exact⟨rfl,_,rfl,za _,rfl,trivial⟩
    ·intro vs lo hi y hg hd hvia
     replace hg:Kp (fun j=>j=p ii+1) wr y:=hg
     obtain⟨h0,h1,_⟩:=hd
     replace h0:=h0 rfl
     replace h1:=h1 rfl
     clear hvia
     dsimp only
     rw [show vs 0=_ from h0,show vs 1=_ from h1]
     go_wp2_with fail
     first | exact⟨rfl,_,rfl,za _,rfl⟩ | exact⟨rfl,_,rfl,za _,rfl,trivial⟩
    ·intro vs lo hi y hg hd hvia
     replace hg:Kp (fun j=>j=p ii+1) wr y:=hg
     obtain⟨h2,_⟩:=hd
     replace h2:=h2 rfl
     clear hvia
     dsimp only
     rw [show vs 2=_ from h2]
     have hc:=HLC.out y hg
     go_wp2_with fail
     first | exact⟨rfl,_,rfl,za _,rfl⟩ | exact⟨rfl,_,rfl,za _,rfl,trivial⟩
    ·intro vs lo hi y hg hd hvia
     replace hg:Kp (fun j=>j=p ii+1) wr y:=hg
     clear hvia
     dsimp only
     go_wp2_with fail
     first | exact⟨rfl,_,rfl,za _,rfl⟩ | exact⟨rfl,_,rfl,za _,rfl,trivial⟩
    ·intro vs lo hi y hg hd hvia
     replace hg:Kp (fun j=>j=p ii+1) wr y:=hg
     clear hvia
     dsimp only
     have hm:=HCM.out y hg
     go_wp2_with(with_reducible refine wpList_load_mid rfl 40 (.tmp 6) rfl (w.heap.size+1) 0 rfl (cm12 cn).cells.toList _ hm hcm rfl HSCL.out ?_;simp only [zT9])
     first | exact⟨rfl,_,rfl,za _,rfl⟩ | exact⟨rfl,_,rfl,za _,rfl,trivial⟩
    ·intro vs lo hi y hg hd hvia
     replace hg:Kp (fun j=>j=p ii+1) wr y:=hg
     obtain⟨h5,_⟩:=hd
     replace h5:=h5 rfl
     clear hvia
     dsimp only
     rw [show vs 5=_ from h5]
     have hgS:=HSY.out y hg
     go_wp2_with(go_at_call 123;refine(CD.out y hgS).mono ?_;rintro e z ⟨rfl,gz⟩)
     exact⟨rfl,_,rfl,gz,rfl,trivial⟩
    ·intro vs lo hi y hg hd hvia
     replace hg:Kp (fun j=>j=p ii+1) wr y:=hg
     clear hvia
     dsimp only
     go_wp2_with fail
     first | exact⟨rfl,_,rfl,za _,rfl⟩ | exact⟨rfl,_,rfl,za _,rfl,trivial⟩
    ·intro vs lo hi y hg hd hvia
     replace hg:Kp (fun j=>j=p ii+1) wr y:=hg
     clear hvia
     dsimp only
     go_wp2_with fail
     first | exact⟨rfl,_,rfl,za _,rfl⟩ | exact⟨rfl,_,rfl,za _,rfl,trivial⟩
    ·intro vs lo hi y hg hd hvia
     replace hg:Kp (fun j=>j=p ii+1) wr y:=hg
     obtain⟨h7,h8,_⟩:=hd
     replace h7:=h7 rfl
     replace h8:=h8 rfl
     clear hvia
     dsimp only
     rw [show vs 7=_ from h7,show vs 8=_ from h8]
     go_wp2_with fail
     first | exact⟨rfl,_,rfl,za _,rfl⟩ | exact⟨rfl,_,rfl,za _,rfl,trivial⟩
    ·intro vs lo hi y hg hd hvia
     replace hg:Grew wr y:=hg
     obtain⟨h3,h4,h6,h9,_⟩:=hd
     replace h3:=h3 rfl
     replace h4:=h4 rfl
     replace h6:=h6 rfl
     replace h9:=h9 rfl
     clear hvia
     dsimp only
     rw [show vs 3=_ from h3,show vs 4=_ from h4,show vs 6=_ from h6,show vs 9=_ from h9]
     have hgS:=HSY.out y (zF hg)
     have hKY:=HKY.out y hg
     go_wp2_with(go_at_call 122;refine(CM.out y hgS hKY).mono ?_;rintro e z ⟨⟨A9,c9,rfl,hat9,hfr9⟩,ht9,hk9⟩)
     exact⟨rfl,_,rfl,kp_tn ht9,trivial,⟨⟨A9,c9,rfl,hat9,hg.size,fun ad h=>(at_lt hat9 ad h).imp id (fun h2=>⟨hfr9 ad h,h2⟩)⟩,hk9⟩⟩
    ·intro vs lo hi y hg hd hvia
     replace hg:Kp (fun j=>j=p ii+1) wr y:=hg
     obtain⟨h10,_⟩:=hd
     replace h10:=h10 rfl
     have hv9:(fun lo hi v w=>MkY w wr.heap.size (p ii+1) (p ii) (ii:Int) (sdI seed ii) (ksL seed h ii) (u+1) (2^h) S0 lo hi v (fun A c=>.tuple #[.agg (S0.mv A c).C,.int .i64 0])) (lo 10) (hi 10) (vs 10) y:=hvia rfl
     clear hvia
     dsimp only
     obtain⟨A9,c9,e9,hat9,hb9,hr9⟩:=MkS.out (MkY.sk hv9)
     rw [e9]
     go_wp2_with fail
     exact⟨rfl,_,rfl,za _,⟨A9,⟨c9,rfl⟩⟩,⟨A9,c9,rfl,hat9,hb9,hr9⟩⟩
    ·intro vs lo hi y hg hd hvia
     replace hg:Kp (fun j=>j=p ii+1) wr y:=hg
     obtain⟨h11,_⟩:=hd
     replace h11:=h11 rfl
     have hv9:(fun lo hi v w=>MkS w wr.heap.size S0 lo hi v (fun A c=>.tuple #[.agg (S0.mv A c).C,.int .i64 0])) (lo 11) (hi 11) (vs 11) y:=hvia rfl
     clear hvia
     dsimp only
     obtain⟨A9,c9,e9,hat9,hb9,hr9⟩:=MkS.out hv9
     rw [e9]
     go_wp2_with fail
     exact⟨rfl,_,rfl,za _,⟨A9,c9,rfl,hat9,hb9,hr9⟩⟩
    ·intro vs lo hi y hg hd hvia
     replace hg:Kp (fun j=>j=p ii+1) wr y:=hg
     obtain⟨h11,_⟩:=hd
     replace h11:=h11 rfl
     clear hvia
     dsimp only
     obtain⟨A9,c9,e9⟩:=h11
     rw [e9]
     go_wp2_with fail
     first | exact⟨rfl,_,rfl,za _,rfl⟩ | exact⟨rfl,_,rfl,za _,rfl,trivial⟩
    ·intro vs lo hi y hg hd hvia
     replace hg:Kp (fun j=>j=p ii+1) wr y:=hg
     clear hvia
     dsimp only
     go_wp2_with fail
     exact⟨rfl,_,rfl,ze (za _) _,⟨y.heap.size,rfl,Ag.new y 157 (#[.int .u64 0,.int .i64 0,.int .i64 0,.int .i64 0,.int .i64 0,.int .u64 0,.int .u64 0,.int .u64 0,.int .u64 0,.int .u64 0,.int .u64 0,.int .u64 0,.int .u64 0,.int .u64 0,.int .u64 0,.int .u64 0,.int .u64 0,.int .u64 0,.int .u64 0,.int .u64 0,.int .u64 0,.int .u64 0,.int .u64 0,.slice none 0 0]:Array Value),hg.size,zN9 _,by show y.heap.size<(y.alloc _).heap.size;simp⟩⟩
   ·refine⟨(fun h=>absurd h (by decide)),(fun h=>absurd h (by decide)),(fun h=>absurd h (by decide)),(fun h=>absurd h (by decide)),(fun h=>absurd h (by decide)),(fun h=>absurd h (by decide)),(fun h=>absurd h (by decide)),(fun h=>absurd h (by decide)),(fun h=>absurd h (by decide)),(fun h=>absurd h (by decide)),(fun h=>absurd h (by decide)),(fun h=>absurd h (by decide)),(fun h=>absurd h (by decide)),?_,(fun h=>absurd h (by decide)),(fun h=>absurd h (by decide)),trivial⟩
    ·intro _ vs y hd
     obtain⟨h11,_⟩:=hd
     replace h11:=h11 rfl
     simp only [actOf,tk1,tk0,dr1,dr0,Act.put,si1,st1,st0,Nat.reduceAdd]
     obtain⟨A9,c9,e9⟩:=h11
     rw [e9]
     go_wp2_with fail
     first | exact⟨rfl,_,rfl,za _,rfl⟩ | exact⟨rfl,_,rfl,za _,rfl,trivial⟩
   ·intro lo hi v x y h hg
    exact MkY.gr h hg
   ·intro i lo hi v x y hne hx h hg
    match i,h with
    | 10,h=>exact absurd rfl hne
    | 11,h=>exact MkS.kp h hg HSB.out
    | 12,h=>exact MkS.kp h hg HSB.out
    | 14,h=>exact AgZ.kp h hg HSB.out
    | 0,_=>trivial
    | 1,_=>trivial
    | 2,_=>trivial
    | 3,_=>trivial
    | 4,_=>trivial
    | 5,_=>trivial
    | 6,_=>trivial
    | 7,_=>trivial
    | 8,_=>trivial
    | 9,_=>trivial
    | 13,_=>trivial
    | m+15,_=>trivial
   ·intro vs lo hi y hg hJ hK hB hD
    replace hg:Kp (fun j=>j=p ii+1) wr y:=hg
    have k33:=hK 10 (by decide) rfl
    have b33:=hB 10 (by decide) rfl
    have k22:=hK 11 (by decide) rfl
    have b22:=hB 11 (by decide) rfl
    have k34:=hK 12 (by decide) rfl
    have b34:=hB 12 (by decide) rfl
    have k12:=hK 14 (by decide) rfl
    have b12:=hB 14 (by decide) rfl
    have d33_12:=hD 10 (by decide) rfl 14 (by decide) rfl (by decide)
    have d22_12:=hD 11 (by decide) rfl 14 (by decide) rfl (by decide)
    have d34_12:=hD 12 (by decide) rfl 14 (by decide) rfl (by decide)
    clear hK hB hD
    have j0:vs 0=.slice (some lad) 4 Lc:=hJ 0 (by decide) rfl
    have j1:vs 1=.int .i64 (ii:Int):=hJ 1 (by decide) rfl
    have j2:vs 2=.pointer (some (lad.add ii)):=hJ 2 (by decide) rfl
    have j3:vs 3=.pointer (some ⟨p ii+1,0,none⟩):=hJ 3 (by decide) rfl
    have j4:vs 4=.int .i64 (ii:Int):=hJ 4 (by decide) rfl
    have j5:vs 5=.agg (cm12 cn).cells:=hJ 5 (by decide) rfl
    have j6:vs 6=.int .u64 (D:Int):=hJ 6 (by decide) rfl
    have j7:vs 7=.int .i64 t0:=hJ 7 (by decide) rfl
    have j8:vs 8=.int .i64 (ii:Int):=hJ 8 (by decide) rfl
    have j9:vs 9=.int .i64 (t0+(ii:Int)):=hJ 9 (by decide) rfl
    clear hJ
    simp only [actOf,tk1,tk0,dr1,dr0,Act.put,si1,st1,st0,Nat.reduceAdd]
    obtain⟨A1,c1,e34,hat1,hb1,hr1⟩:=MkS.out k34
    obtain⟨q,e12,zq,hBq,hql,hqh⟩:=AgZ.out k12
    rw [e34,e12]
    have hky:=MkY.ky k33
    have hPI:=HPI.out
    have hqb:=HBE.out
    have hbz:=HBW.out
    have HNQ:Hid (∀ ad,A1=some ad→S0.l=[]∨ad.block≠q):=hQ9 (fun ad h=>by
     rcases hr1 ad h with h1 | h1
     ·exact .inl h1
     ·exact .inr (by rcases d34_12 with h2 | h2<;>omega))
    have HLO1:Hid (∀ ad,A1=some ad→S0.l=[]∨wr.heap.size≤ad.block):=hQ9 (fun ad h=>(hr1 ad h).imp id (fun h1=>by omega))
    obtain⟨gs,hgs⟩:∃ g,(S0.mv A1 c1).C=g:=⟨_,rfl⟩
    have hz24:gs.size=24:=by rw [←hgs];rfl
    have HTH:Hid (y.there q 0 gs.size):=hQ9 (zq.thereN gs.size (by rw [hz24];rfl))
    have HSI:Hid (zI9 157=some gs.size):=hQ9 (by rw [hz24];exact zK)
    have HON:Hid (gs.all (·.oneCell')=true):=hQ9 (by rw [←hgs];exact(S0.mv A1 c1).one)
    have z4:=Ag.set (vs:=gs.toList) zq (by rw [Array.length_toList,hz24];rfl)
    have k4:=zn gs.toList q 0 y
    have HF:Hid (StY (fun j=>j=p ii+1) wr S0 (p ii+1) (p ii) (ii:Int) (sdI seed ii) (ksL seed h ii) (u+1) (2^h) (.pointer (some ⟨q,0,none⟩)) (y.setCells q 0 gs.toList)):=hQ9 ⟨⟨A1,c1,q,rfl,by rw [hgs];exact z4,at_kp hat1 k4 (fun ad h=>HNQ.out ad h),by omega,HLO1.out,zbh hg k4 (by omega)⟩,hky.kp k4 (fun h=>by have h:p ii+1=q:=h;omega) (fun h=>by have h:p ii=q:=h;omega)⟩
    rw [hgs]
    clear hgs hg z4 k4 zq hat1 hky
    generalize gs=gs' at *
    go_wp2_with(with_reducible refine wpList_store_mid rfl 157 (.tmp 12) (.tmp 34) rfl q 0 gs' rfl rfl HTH.out HSI.out HON.out ?_)
    exact HF.out
   ·intro vs w4 hF hJ
    have j0:vs 0=.slice (some lad) 4 Lc:=hJ 0 (by decide)
    have j1:vs 1=.int .i64 (ii:Int):=hJ 1 (by decide)
    have j2:vs 2=.pointer (some (lad.add ii)):=hJ 2 (by decide)
    have j3:vs 3=.pointer (some ⟨p ii+1,0,none⟩):=hJ 3 (by decide)
    have j4:vs 4=.int .i64 (ii:Int):=hJ 4 (by decide)
    have j5:vs 5=.agg (cm12 cn).cells:=hJ 5 (by decide)
    have j6:vs 6=.int .u64 (D:Int):=hJ 6 (by decide)
    have j7:vs 7=.int .i64 t0:=hJ 7 (by decide)
    have j8:vs 8=.int .i64 (ii:Int):=hJ 8 (by decide)
    have j9:vs 9=.int .i64 (t0+(ii:Int)):=hJ 9 (by decide)
    have j13:vs 13=.int .i64 0:=hJ 13 (by decide)
    clear hJ
    simp only [actOf,tk1,tk0,dr1,dr0,Act.put,si1,st1,st0,Nat.reduceAdd]
    obtain⟨⟨A1,c1,q,e5,z4,hat4,hq4,hlo4,kk⟩,hky4⟩:=hF
    rw [e5,show vs 13=_ from j13]
    have HKY4:=hQ9 hky4
    have HFR:Hid (∀ ad,A1=some ad→S0.l=[]∨wr.heap.size≤ad.block):=hQ9 hlo4
    obtain⟨gs,hgs⟩:∃ g,(S0.mv A1 c1).C=g:=⟨_,rfl⟩
    rw [hgs]at z4
    have HGS:=hQ9 hgs
    have hz24:gs.size=24:=by rw [←hgs];rfl
    have HSL:Hid (zI9 157=some gs.toList.length):=hQ9 (by rw [Array.length_toList,hz24];exact zK)
    have hbw:=HBW.out
    have hpi:=HPI.out
    have hqb:=HBE.out
    have HAT4:Hid (∀ S∈M,S.at w4):=hQ9 (fun S hS=>at_kp (HAT.out S hS) kk (fun ad h=>(HLW.out S hS ad h).imp id (fun h1 h3=>by omega)))
    have HROW4:=hQ9 (zo HROW.out kk (fun g h h3=>by
     have h1:=zN HROW.out g h
     omega))
    have HKS4:Hid (∀ i,n+1≤i→i<4→KyAt w4 (p i+1) (p i) (i:Int) (sdI seed i) (ksL seed h i) u (2^h)):=hQ9 (fun i hi hi4=>by
     have h2:=HAP.out i ii hi4 HI4.out (by have:=HII.out;omega)
     exact(HKS.out i (by omega) hi4).kp kk (fun h=>by omega) (fun h=>by omega))
    have HK14:Hid (∀ i,i<n+1→KyAt w4 (p i+1) (p i) (i:Int) (sdI seed i) (ksL seed h i) (u+1) (2^h)):=hQ9 (fun i hi=>by
     by_cases hin:i=n
     ·have h3:i=ii:=by rw [hin,HII.out]
      rw [h3]
      exact HKY4.out
     ·have h2:=HAP.out i ii (by have:=HI4.out;have:=HII.out;omega) HI4.out (by have:=HII.out;omega)
      exact(HK1.out i (by omega)).kp kk (fun h=>by omega) (fun h=>by omega))
    have HZK4:=hQ9 (HZK.out.kp kk (fun h=>by have h:w.heap.size=p ii+1:=h;omega))
    have HZC4:=hQ9 (HZC.out.kp kk (fun h=>by have h:w.heap.size+1=p ii+1:=h;omega))
    have HZT4:=hQ9 (HZT.out.kp kk (fun h=>by have h:w.heap.size+1+1=p ii+1:=h;omega))
    have HLD4:Hid (∀ i,i<4→w4.cell? (lad.add i)=some (.pointer (some ⟨p i+1,0,none⟩))):=hQ9 (fun i hi=>by
     have h1:=yy (HLD.out i hi)
     rw [zy]at h1
     exact(World.cell?_of_block (by rw [zy];exact kk.block lad.block h1 (FL.out ii HI4.out))).trans (HLD.out i hi))
    have HRR4:=hQ9 ((HRR.out.kp kk (zN9 _) (fun ad e h1 h=>FR.out ii HI4.out ad e h)).more kk.size)
    have HGG4:=hQ9 (zV HGG.out kk HGG.out.size (fun i (h:i=p ii+1)=>by omega))
    have HKP4:Hid (Kp (fun j=>∃ i,i<4∧j=p i+1) w w4):=hQ9 (yo HKP.out (zoj kk (fun i (h:i=p ii+1)=>⟨ii,HI4.out,h⟩)))
    have HBW4:Hid (wr.heap.size≤w4.heap.size):=hQ9 kk.size
    have HAT5:=hQ9 hat4
    have hrow4:=HROW4.out
    have hsz4:=HBW4.out
    have hm4:=z4.cell
    have hqw4:=z4.lt
    have hww:=HGG4.out.size
    clear hz24 hky4 z4 kk hbw hpi hqb hgs j13 e5 hat4 hq4 hlo4
    clear j0 j1 j2 j3 j4 j5 j6 j7 j8 j9
    clear HAT HKS HK1 HZK HZC HZT HLD HRR
    have ga:=ze (za w4) (.cells gs 157)
    have HTS:Hid ((spL M).flatten++gs.toList=(spL (M++[S0.mv A1 c1])).flatten):=hQ9 (by rw [xo,HGS.out])
    have HONE:Hid (∀ u∈gs.toList,u.oneCell'=true):=hQ9 (by rw [←HGS.out];exact(S0.mv A1 c1).one')
    have HLEN:Hid (gs.toList.length=24):=hQ9 (by rw [←HGS.out];rfl)
    have HFOLD:Hid (Array.foldl (fun(cs:Array Value) (x:Value × Nat)=>cs.setIfInBounds x.snd x.fst) (zS24:Array Value) gs.zipIdx 0 24=gs):=hQ9 (by rw [←HGS.out];exact xN (S0.mv A1 c1))
    have hgs24:gs.size=24:=by rw [←HGS.out];rfl
    have hin9:=HI4.out
    have hin8:=HII.out
    have hb9:B0≤w4.heap.size:=by have:=HBW.out;omega
    go_wp2_with(first
     | (with_reducible refine wpList_load_mid rfl 157 (.tmp 12) rfl q 0 rfl gs.toList _ hm4 hut rfl HSL.out ?_;simp only [zT9])
     | (at_builtin;rw [HFOLD.out];refine zO _ rfl (.tmp 39) (.tmp 41) 41 rfl B0 157 i0 (.agg (#[.int .u64 0,.int .i64 0,.int .i64 0,.int .i64 0,.int .i64 0,.int .u64 0,.int .u64 0,.int .u64 0,.int .u64 0,.int .u64 0,.int .u64 0,.int .u64 0,.int .u64 0,.int .u64 0,.int .u64 0,.int .u64 0,.int .u64 0,.int .u64 0,.int .u64 0,.int .u64 0,.int .u64 0,.int .u64 0,.int .u64 0,.slice none 0 0]:Array Value)) 24 208 Tryz.underlying41 hi hz0 hz1 hz2 rfl (by decide) _ _ _ rfl (hrow4.alloc _) ⟨w4.heap.size,0,none⟩ 1 1 gs.toList rfl (by rw [HLEN.out]) (fun j u hj=>yg w4 gs 157 j u hj) HONE.out (by unfold maxLen;omega) (by omega) (by simp;omega) ?_;intro v' w5 hown5 hgrow5 hob5))
    go_roundw
    case rel =>
     have K5:Kp (fun g=>B0≤g) w4 w5:=yX (zF ga) hgrow5 (fun g e=>.inl (zu hrow4 g e))
     have G5:∀ {z:World},Below B0 z w4→Below B0 z w5:=fun h=>zV h K5 hb9 (fun i h=>h)
     have hpi:=HPI.out
     have hqb:=HBE.out
     have hsz5:=K5.size
     have hob:=zN HROW.out
     refine⟨n+1,M++[S0.mv A1 c1],by omega,(by go_num),by omega,by rw [HL14.out];exact HMV.out.snoc S0 A1 c1,?_,?_,?_,?_,by rw [←HTS.out];exact hown5,?_,?_,?_,?_,?_,?_,?_,?_,?_⟩
     ·intro T hT
      rcases List.mem_append.1 hT with h | h
      ·exact HOKM.out T h
      ·obtain rfl:T=S0.mv A1 c1:=by simpa using h
       exact SP.mv_ok HSO.out _ _
     ·intro T hT
      rcases List.mem_append.1 hT with h | h
      ·exact yQ ((HAT4.out T h).gr ga) hgrow5 (fun ad e g hg=>HNE.out T h ad e g hg)
      ·obtain rfl:T=S0.mv A1 c1:=by simpa using h
       exact yQ (HAT5.out.gr ga) hgrow5 (fun ad e g hg=>by
        rcases HFR.out ad e with h1 | h1
        ·exact .inl h1
        ·have:=(hob g hg).2
         exact .inr (by omega))
     ·intro T hT ad e g hg
      have hlt9:T.l=[]∨ad.block<(w4.alloc (.cells gs 157)).heap.size:=by
       rcases List.mem_append.1 hT with h | h
       ·exact at_lt ((HAT4.out T h).gr ga) ad e
       ·obtain rfl:T=S0.mv A1 c1:=by simpa using h
        exact at_lt (HAT5.out.gr ga) ad e
      rcases hob5 with h3 | h3
      ·rw [h3]at hg
       rcases List.mem_append.1 hT with h | h
       ·exact HNE.out T h ad e g hg
       ·obtain rfl:T=S0.mv A1 c1:=by simpa using h
        rcases HFR.out ad e with h1 | h1
        ·exact .inl h1
        ·have:=(hob g hg).2
         exact .inr (by omega)
      ·rw [h3]at hg;injection hg with hg
       rcases hlt9 with h1 | h1
       ·exact .inl h1
       ·exact .inr (by omega)
     ·intro T hT ad e
      rcases List.mem_append.1 hT with h | h
      ·exact HLW.out T h ad e
      ·obtain rfl:T=S0.mv A1 c1:=by simpa using h
       rcases HFR.out ad e with h1 | h1
       ·exact .inl h1
       ·exact .inr (by have:=HBW.out;omega)
     ·intro i hi1 hi2
      have h1:=HP.out i hi2
      exact(HKS4.out i hi1 hi2).kp K5 (by omega) (by omega)
     ·intro i hi1
      have h1:=HP.out i (by omega)
      exact(HK14.out i hi1).kp K5 (by omega) (by omega)
     ·exact HZK4.out.kp K5 (by omega)
     ·exact HZC4.out.kp K5 (by omega)
     ·exact HZT4.out.kp K5 (by omega)
     ·intro i hi
      have h1:=yy (HLD4.out i hi)
      have h2:=HLB.out
      rw [zy]at h1
      exact(World.cell?_of_block (by rw [zy];exact K5.block lad.block h1 (by omega))).trans (HLD4.out i hi)
     ·exact(HRR4.out.kp K5 (zN9 _) (fun ad e h1 h=>by have:=HRB.out ad e;omega)).more K5.size
     ·have hK:=HKP4.out
      exact⟨K5.os.trans hK.os,K5.tape.trans hK.tape,K5.output.trans hK.output,by have:=hK.size;omega,fun i hi hn=>(K5.block i (by have:=hK.size;omega) (by omega)).trans (hK.block i hi hn)⟩
     ·exact zV HGG4.out K5 HGG4.out.size (fun i hi=>by have:=HPI.out;omega)
    case measure=>simp [Go.RowKit.intOf]<;>omega
  ·obtain rfl:n=4:=by omega
   obtain⟨A0,A1,A2,A3,c0,c1,c2,c3,hM⟩:=lG_mv hmv
   have hml:M.length=4:=by rw [hM];rfl
   obtain⟨AB,cB,rfl,hB,hcc1,hcc2,hbB⟩:=xO hrow hml
   have hSp:Sps wr AB M:=⟨hB,hok,hat⟩
   have CMK:=zk4 (cm12 cn) (kpH_ok seed h hh.out RA Rc) AB cB M (by rw [hml];decide) (ok12 cn hcn.out) wr (HS.out.grew hg) (show Rd wr wr.heap.size RA (u64L (rtL seed h 4)) from rRr) hSp (by rw [hM];exact zpv seed h u hh.out hu.out D t0 ht.out RA Rc HDE.out A0 A1 A2 A3 c0 c1 c2 c3)
   rw [show chosen (kpH seed h RA Rc) (dgC (cm12 cn)) M=[spG seed h u D t0 0 A0 c0,spG seed h u D t0 1 A1 c1,spG seed h u D t0 2 A2 c2] from by rw [hM];exact zpu seed h u hh.out hu.out D t0 ht.out RA Rc HDE.out A0 A1 A2 A3 c0 c1 c2 c3,HKC.out,hml,show(cm12 cn).v=.agg (cm12 cn).cells from rfl,show([spG seed h u D t0 0 A0 c0,spG seed h u D t0 1 A1 c1,spG seed h u D t0 2 A2 c2]:List SP).length=3 from rfl]at CMK
   have CMKH:=hQ9 CMK
   have hmk:=zk.cell
   have hmc:=zc.cell
   have HK1:=hQ9 hk1
   clear hmv hok hat hne hlow hrow hks hk1 hB hSp hM hbB CMK hld rRr hcc1 hcc2 hml hn hlt
   go_wp2_with(first
    | (with_reducible refine wpList_load_mid rfl 91 (.tmp 5) rfl w.heap.size 0 rfl kc.toList _ hmk hkt rfl HSKL.out ?_;simp only [zT9])
    | (with_reducible refine wpList_load_mid rfl 40 (.tmp 6) rfl (w.heap.size+1) 0 rfl (cm12 cn).cells.toList _ hmc hcm rfl HSCL.out ?_;simp only [zT9]))
   refine(CMKH.out).mono ?_
   rintro e w5 ⟨B2,k2,M2,rfl,hmv2,hsp2,hb2,hm2,g5⟩
   have hmv3:MvL [spG seed h u D t0 0 none 0,spG seed h u D t0 1 none 0,spG seed h u D t0 2 none 0] M2:=⟨hmv2.len,fun k h1 h2=>by
    obtain⟨A,c,e⟩:=hmv2.each k h1 h2
    refine⟨A,c,e.trans ?_⟩
    have hk:k=0∨k=1∨k=2:=by have:k<3:=h1;omega
    rcases hk with rfl | rfl | rfl<;>rfl⟩
   obtain⟨w6,hw6,ht6,g6,z6⟩:=yT w5 43 (zS6:Array Value) (ctC (cm12 cn) B2 3 k2) rfl
   have HW6:=hQ9 hw6
   have HT6:=hQ9 ht6
   have g56:=zb g5 g6
   have zt6:=zt.grew g56
   have hm6:=z6.cell
   have HTT:Hid (w6.there (w.heap.size+1+1) 0 (ctC (cm12 cn) B2 3 k2).size):=hQ9 (zt6.thereN 6 rfl)
   have HSI:Hid (zI9 43=some (ctC (cm12 cn) B2 3 k2).size):=hQ9 yh
   have HSL:Hid (zI9 43=some (ctC (cm12 cn) B2 3 k2).toList.length):=hQ9 yh
   have HON:=hQ9 (kx (cm12 cn) B2 3 k2)
   have z7:=Ag.set (vs:=(ctC (cm12 cn) B2 3 k2).toList) zt6 rfl
   have K7:=zn (ctC (cm12 cn) B2 3 k2).toList (w.heap.size+1+1) 0 w6
   have hbe:=HBE.out
   have hsp7:=(hsp2.gr g6).kpx K7 (fun ad h e=>by have:=hb2 ad h;have e:ad.block=w.heap.size+1+1:=e;omega) (fun T hT ad h=>(hm2 T hT ad h).imp id (fun h1 e=>by have e:ad.block=w.heap.size+1+1:=e;omega))
   have KK:=zbh (yo hkp (zF g56)) K7 (by omega)
   have HKY:Hid (∀ i,i<4→KyAt (w6.setCells (w.heap.size+1+1) 0 (ctC (cm12 cn) B2 3 k2).toList) (p i+1) (p i) (i:Int) (sdI seed i) (ksL seed h i) (u+1) (2^h)):=hQ9 (fun i hi=>by
    have h1:=HP.out i hi
    exact((HK1.out i hi).grew g56).kp K7 (fun h=>by have h:p i+1=w.heap.size+1+1:=h;omega) (fun h=>by have h:p i=w.heap.size+1+1:=h;omega))
   have HB1:Hid (∀ ad,B2=some ad→w.heap.size≤ad.block):=hQ9 (fun ad h=>by have:=hb2 ad h;omega)
   have HB2:Hid (∀ S∈M2,∀ ad,S.A=some ad→S.l=[]∨w.heap.size≤ad.block):=hQ9 (fun S hS ad h=>(hm2 S hS ad h).imp id (fun h1=>by omega))
   clear hmv2 hsp2 hb2 hm2 zt zk zc hmk hmc hw6 ht6 zt6 K7 hkp hg z6 g5 g6 g56
   go_wp2_with(first
    | (with_reducible refine wpList_store_mid rfl 43 (.tmp 14) (.tmp 48) rfl w5.heap.size 0 (ctC (cm12 cn) B2 3 k2) rfl rfl HT6.out HSI.out HON.out ?_;rw [HW6.out])
    | (with_reducible refine wpList_load_mid rfl 43 (.tmp 14) rfl w5.heap.size 0 rfl (ctC (cm12 cn) B2 3 k2).toList _ hm6 hct rfl HSL.out ?_;simp only [zT9])
    | (with_reducible refine wpList_store_mid rfl 43 (.tmp 8) (.tmp 50) rfl (w.heap.size+1+1) 0 (ctC (cm12 cn) B2 3 k2) rfl rfl HTT.out HSI.out HON.out ?_))
   exact bodyPost_ret (zw Tryz.results54 _ _ (w.heap.size+1+1) _ _ _ rfl rfl z7 hct rfl HSL.out) rfl ⟨⟨B2,k2,M2,rfl,hmv3,hsp7,HB1.out,HB2.out⟩,KK,HKY.out⟩
theorem ze5 (w0:World) (hS:Std w0) (p:Nat→Nat) (lad:Addr) (Lc:Nat) (RA:Option Addr) (Rc:Nat) (w:World) (g0:Grew w0 w)
 (hks:∀ i,i<4→KyAt w (p i+1) (p i) (i:Int) (sdI 3 i) (ksL 3 2 i) 0 (2^2))
 (hap:∀ i j,i<4→j<4→i≠j→p i≠p j∧p i+1≠p j∧p i≠p j+1)
 (hlow:∀ i,i<4→w0.heap.size≤p i+1)
 (hld:∀ i,i<4→w.cell? (lad.add i)=some (.pointer (some ⟨p i+1,0,none⟩)))
 (fl:∀ i,i<4→lad.block≠p i+1) (fr:∀ i,i<4→∀ ad,RA=some ad→ad.block≠p i+1)
 (hRr:Rd w w.heap.size RA (u64L (rtL 3 2 4))) :
 Calls Tryz.prog 54 #[.slice (some lad) 4 Lc,.agg (kyS 1 RA 4 Rc 2),.agg (cm12 0).cells,.int .i64 10] w fun e w' =>
  (∃ B k M,e=.returned (.tuple #[.agg (ctC (cm12 0) B 3 k),.bool true])∧MvL [sp14 0 none 0,sp14 1 none 0,sp14 2 none 0] M∧Sps w' B M∧(∀ ad,B=some ad→w.heap.size≤ad.block)∧(∀ S∈M,∀ ad,S.A=some ad→S.l=[]∨w.heap.size≤ad.block))∧Kp (fun j=>∃ i,i<4∧j=p i+1) w w'∧(∀ i,i<4→KyAt w' (p i+1) (p i) (i:Int) (sdI 3 i) (ksL 3 2 i) 1 (2^2)) :=
 zgd 3 2 0 (hQ9 (by omega)) (hQ9 (by decide)) 0 10 (hQ9 (by omega)) (hQ9 (by omega)) 11072973056134508768 (hQ9 zlb) w0 hS p lad Lc RA Rc w g0 hks hap hlow hld fl fr hRr
theorem zb0 {S:AP} {P:Nat→Prop} {w w':World} (h:S.at w) (k:Kp P w w') (hn:∀ ad,S.A=some ad→S.l=[]∨¬P ad.block):S.at w':=by
 by_cases hl:S.l=[]
 ·intro j hj;rw [hl]at hj;exact absurd hj (by simp [u64L])
 ·exact(Rd.kp h k (zN9 _) (fun ad e _=>by
   rcases hn ad e with h1 | h1
   ·exact absurd h1 hl
   ·exact h1)).more k.size
structure MkA (w:World) (B:Nat) (S0:AP) (lo hi:Nat) (v:Value) (f:Option Addr→Nat→Value):Prop where
 out:∃ A c,v=f A c∧(S0.mv A c).at w∧B≤lo∧(∀ ad,A=some ad→S0.l=[]∨(lo≤ad.block∧ad.block<hi))
theorem MkA.kp {P:Nat→Prop} {w w':World} {B:Nat} {S0:AP} {lo hi:Nat} {v:Value} {f:Option Addr→Nat→Value} (h:MkA w B S0 lo hi v f) (k:Kp P w w') (hp:∀ g,P g→g<B):MkA w' B S0 lo hi v f:=by
 obtain⟨A,c,h1,h2,h3,h4⟩:=h.out
 refine⟨A,c,h1,zb0 h2 k (fun ad e=>?_),h3,h4⟩
 rcases h4 ad e with h5 | h5
 ·exact .inl h5
 ·exact .inr (fun h6=>by have:=hp _ h6;omega)
theorem MkA.gr {w w':World} {B:Nat} {S0:AP} {lo hi:Nat} {v:Value} {f:Option Addr→Nat→Value} (h:MkA w B S0 lo hi v f) (k:Grew w w'):MkA w' B S0 lo hi v f:=h.kp (P:=fun _=>False) (zF k) (fun _ h=>h.elim)
structure StA (P:Nat→Prop) (w0:World) (S0:AP) (v:Value) (W:World):Prop where
 out:∃ A c q,v=.pointer (some ⟨q,0,none⟩)∧Ag W q (S0.mv A c).C.toList∧(S0.mv A c).at W∧w0.heap.size≤q∧(∀ ad,A=some ad→S0.l=[]∨w0.heap.size≤ad.block)∧Kp P w0 W
theorem StA.gr {P:Nat→Prop} {w0:World} {S0:AP} {v:Value} {x y:World} (h:StA P w0 S0 v x) (g:Grew x y):StA P w0 S0 v y:=by
 obtain⟨A,c,q,h1,h2,h3,h4,h5,h6⟩:=h.out
 exact⟨A,c,q,h1,h2.grew g,h3.gr g,h4,h5,yo h6 (zF g)⟩
structure MkB (w:World) (B b p:Nat) (who sd:Int) (l:List Nat) (nx rs:Nat) (S0:AP) (lo hi:Nat) (v:Value) (f:Option Addr→Nat→Value):Prop where
 sk:MkA w B S0 lo hi v f
 ky:KyAt w b p who sd l nx rs
theorem MkB.gr {w w':World} {B b p:Nat} {who sd:Int} {l:List Nat} {nx rs:Nat} {S0:AP} {lo hi:Nat} {v:Value} {f:Option Addr→Nat→Value} (h:MkB w B b p who sd l nx rs S0 lo hi v f) (g:Grew w w'):MkB w' B b p who sd l nx rs S0 lo hi v f:=⟨h.sk.gr g,h.ky.grew g⟩
structure StB (P:Nat→Prop) (w0:World) (S0:AP) (b p:Nat) (who sd:Int) (l:List Nat) (nx rs:Nat) (v:Value) (W:World):Prop where
 st:StA P w0 S0 v W
 ky:KyAt W b p who sd l nx rs
theorem StB.gr {P:Nat→Prop} {w0:World} {S0:AP} {b p:Nat} {who sd:Int} {l:List Nat} {nx rs:Nat} {v:Value} {x y:World} (h:StB P w0 S0 b p who sd l nx rs v x) (g:Grew x y):StB P w0 S0 b p who sd l nx rs v y:=⟨h.st.gr g,h.ky.grew g⟩
noncomputable def m14 (d n:Nat):List AP:=(List.range n).map (fun j=>ap14 d (3-j) none 0)
theorem znw (d n:Nat):m14 d (n+1)=m14 d n++[ap14 d (3-n) none 0]:=by simp [m14,List.range_succ]
theorem m14_mv {d:Nat} {M:List AP} (h:MvA (m14 d 3) M):∃ A1 A2 A3 c1 c2 c3,M=[ap14 d 3 A3 c3,ap14 d 2 A2 c2,ap14 d 1 A1 c1]:=by
 have hl:M.length=3:=by rw [h.len];simp [m14]
 match M,hl with
 | [a,b,c],_ =>
  obtain⟨A3,c3,e3⟩:=h.each 0 (by simp [m14]) (by simp)
  obtain⟨A2,c2,e2⟩:=h.each 1 (by simp [m14]) (by simp)
  obtain⟨A1,c1,e1⟩:=h.each 2 (by simp [m14]) (by simp)
  refine⟨A1,A2,A3,c1,c2,c3,?_⟩
  simp only [m14,List.getElem_map,List.getElem_range,List.getElem_cons_zero,List.getElem_cons_succ]at e1 e2 e3
  rw [e1,e2,e3]
  rfl
theorem CtS.kp {P:Nat→Prop} {w w':World} {B:Nat} {L:List SP} {lo hi:Nat} {v:Value} {f:Option Addr→Nat→Value} (h:CtS w B L lo hi v f) (k:Kp P w w') (hp:∀ g,P g→g<B):CtS w' B L lo hi v f:=by
 obtain⟨A,c,M,h1,h2,h3,h4,h5,h6⟩:=h.out
 exact⟨A,c,M,h1,h2,h3.kpx k (fun ad e hh=>by have:=hp _ hh;have:=h5 ad e;omega) (fun T hT ad e=>(h6 T hT ad e).imp id (fun h7 hh=>by have:=hp _ hh;omega)),h4,h5,h6⟩
noncomputable def e14:List SP:=[sp14 0 none 0,sp14 1 none 0,sp14 2 none 0]
def keys14 (p:Nat→Nat) (nx:Nat) (w:World):Prop:=∀ i,i<4→KyAt w (p i+1) (p i) (i:Int) (sdI 3 i) (ksL 3 2 i) nx (2^2)
theorem keys14.grew {p:Nat→Nat} {nx:Nat} {w w':World} (h:keys14 p nx w) (g:Grew w w'):keys14 p nx w':=fun i hi=>(h i hi).grew g
structure CeY (p:Nat→Nat) (w:World) (B:Nat) (lo hi:Nat) (v:Value):Prop where
 sk:CtS w B e14 lo hi v (fun A c=>.tuple #[.agg (ctC (cm12 0) A 3 c),.bool true])
 ky:keys14 p 1 w
theorem CeY.gr {p:Nat→Nat} {w w':World} {B lo hi:Nat} {v:Value} (h:CeY p w B lo hi v) (g:Grew w w'):CeY p w' B lo hi v:=⟨h.sk.gr g,h.ky.grew g⟩
structure CeF (p:Nat→Nat) (w0:World) (v:Value) (W:World):Prop where
 out:∃ A c M q,v=.pointer (some ⟨q,0,none⟩)∧Ag W q (ctC (cm12 0) A 3 c).toList∧MvL e14 M∧Sps W A M∧w0.heap.size≤q∧(∀ ad,A=some ad→w0.heap.size≤ad.block)∧(∀ S∈M,∀ ad,S.A=some ad→S.l=[]∨w0.heap.size≤ad.block)∧Kp (fun j=>∃ i,i<4∧j=p i+1) w0 W∧keys14 p 1 W
theorem CeF.gr {p:Nat→Nat} {w0:World} {v:Value} {x y:World} (h:CeF p w0 v x) (g:Grew x y):CeF p w0 v y:=by
 obtain⟨A,c,M,q,h1,h2,h3,h4,h5,h6,h7,h8,h9⟩:=h.out
 exact⟨A,c,M,q,h1,h2.grew g,h3,h4.gr g,h5,h6,h7,yo h8 (zF g),h9.grew g⟩
theorem zi6 (w:World) (hS:Std w) (hg8:5<w.heap.size):Calls Tryz.prog 28 #[] w fun e w'=>e=.returned (.bool true)∧Grew w w':=by
 have HS:=hQ9 hS
 have HG8:=hQ9 hg8
 have CE:=zpb 3 ⟨by omega,by omega⟩ 2 (by omega) w
 rw [show((2:Nat):Int)=2 from rfl]at CE
 have hkt:=Tryz.underlying91
 have hct:=Tryz.underlying43
 clear hS hg8
 go_enter Tryz.func28,Tryz.ntmps28
 go_wp2_with fail
 refine CE.mono ?_
 clear CE
 rintro e w1 ⟨LA,Lc,RA,Rc,p,rfl,KS,rL,rR,FL0,FR0,G1⟩
 obtain⟨lad,hLA,-,-⟩:=rL 0 (by simp [ptrL])
 subst hLA
 obtain⟨kc,hkc⟩:∃ v,kyS 1 RA 4 Rc 2=v:=⟨_,rfl⟩
 have HSK:Hid (zI9 91=some (kyS 1 RA 4 Rc 2).size):=hQ9 (by kernel_rfl)
 have HSKL:Hid (zI9 91=some (kyS 1 RA 4 Rc 2).toList.length):=hQ9 (by kernel_rfl)
 have HOK:Hid ((kyS 1 RA 4 Rc 2).all (·.oneCell')=true):=hQ9 (by simp [kyS,Value.oneCell'])
 have HKC:Hid ((kp12 RA Rc).C=kyS 1 RA 4 Rc 2):=hQ9 (by show kyS 1 RA (rtL 3 2 4).length Rc 2=_;rw [xG])
 have HKCS:=hQ9 hkc
 obtain⟨w2,hw2,ht2,g2,z2⟩:=yT w1 91 (#[.int .i64 0,.slice none 0 0,.int .i64 0]) (kyS 1 RA 4 Rc 2) rfl
 have HW2:=hQ9 hw2
 have HTK:=hQ9 ht2
 have HP:Hid (∀ i,i<4→w.heap.size≤p i+1∧p i+1<w1.heap.size):=hQ9 (fun i hi=>⟨by have:=KS.low i hi;omega,(KS.key i hi).key.lt⟩)
 have HAP:=hQ9 KS.apart
 have KS2:=KS.grew g2
 have rL2:=rL.gr g2
 have rR2:=rR.gr g2
 have G2:=zb G1 g2
 have HLD:Hid (∀ i,i<4→w2.cell? (lad.add i)=some (.pointer (some ⟨p i+1,0,none⟩))):=hQ9 (fun i hi=>by
  obtain⟨ad,e,_,hc⟩:=rL2 i (by simp [ptrL];exact hi)
  cases e
  rw [hc];simp [ptrL])
 have HQK:Hid (w1.heap.size<w2.heap.size):=hQ9 z2.lt
 have FL:Hid (∀ i,i<4→lad.block≠p i+1):=hQ9 (fun i hi=>(FL0 lad rfl i hi).2)
 have FR:Hid (∀ i,i<4→∀ ad,RA=some ad→ad.block≠p i+1):=hQ9 (fun i hi ad e=>(FR0 ad e i hi).2)
 have HKS:Hid (keys14 p 0 w2):=hQ9 (fun i hi=>KS2.key i hi)
 rw [hkc]at z2 HSK HSKL HOK HTK HW2 HKC ⊢
 clear hw2 ht2 g2 KS KS2 rL rL2 rR G1 hkc FL0 FR0
 have CC:=hQ9 (fun W=>c12_ok 0 W)
 have CM:Hid (∀ y,Grew w2 y→Calls Tryz.prog 54 #[.slice (some lad) 4 Lc,.agg kc,.agg (cm12 0).cells,.int .i64 10] y fun e w'=>CeY p w' w2.heap.size y.heap.size w'.heap.size (match e with | .returned v=>v | _=>undef)∧(∃ v,e=.returned v)∧Kp (fun j=>∃ i,i<4∧j=p i+1) y w'):=hQ9 (fun y g=>by
  have h:=ze5 w HS.out p lad Lc RA Rc y (zb G2 g) (fun i hi=>(HKS.out i hi).grew g) HAP.out (fun i hi=>(HP.out i hi).1) (fun i hi=>(g.cell (p:=lad.add i) (yy (HLD.out i hi))).trans (HLD.out i hi)) FL.out FR.out (rR2.gr g)
  rw [HKCS.out]at h
  refine h.mono ?_
  rintro e w' ⟨⟨B,k,M,rfl,hmv,hsp,hb,hm⟩,hk,hy⟩
  obtain⟨q,hq,hql,-⟩:=hsp.get 0 (by rw [hmv.len];decide)
  exact⟨⟨⟨B,k,M,rfl,hmv,hsp,g.size,fun ad e=>⟨hb ad e,by rw [hq]at e;cases e;exact hql⟩,fun S hS ad e=>by
   rcases hm S hS ad e with h1 | h1
   ·exact .inl h1
   ·exact(at_lt (hsp.at_ S hS) ad e).imp id (fun h2=>⟨h1,h2⟩)⟩,hy⟩,⟨_,rfl⟩,hk⟩)
 have HQB:Hid (∀ i,i<4→p i+1<w1.heap.size):=hQ9 (fun i hi=>(HP.out i hi).2)
 go_upto_region 4 with (with_reducible refine wpList_store_mid rfl 91 (.tmp 2) (.tmp 19) rfl w1.heap.size 0 kc rfl rfl HTK.out HSK.out HOK.out ?_;rw [HW2.out];clear HW2 HTK;generalize w1.heap.size=qk at *)
 have HSB:Hid (∀ g,(fun j=>∃ i,i<4∧j=p i+1) g→g<w2.heap.size):=hQ9 (fun g ⟨i,hi,h⟩=>by have:=HQB.out i hi;have:=HQK.out;omega)
 have HKM:Hid (∀ y,Kp (fun j=>∃ i,i<4∧j=p i+1) w2 y→y.rangeAt qk 0 kc.toList):=hQ9 (fun y k=>(z2.kp k (fun⟨i,hi,h⟩=>by have:=HQB.out i hi;omega)).cell)
 refine xa 8 9 3 (fun j=>∃ i,i<4∧j=p i+1) (fun ix9=>match ix9 with
  | 0=>fun v=>v=.slice (some lad) 4 Lc
  | 1=>fun v=>v=.agg kc
  | 2=>fun v=>v=.agg (cm12 0).cells
  | 3=>fun _=>True
  | 4=>fun v=>∃ A c,v=.tuple #[.agg (ctC (cm12 0) A 3 c),.bool true]
  | 5=>fun _=>True
  | 6=>fun v=>v=.bool true
  | 7=>fun _=>True
  | 8=>fun _=>True
  | _=>fun _=>True) (fun ix9=>match ix9 with
  | 3=>fun lo hi v w=>CeY p w w2.heap.size lo hi v
  | 4=>fun lo hi v w=>CtS w w2.heap.size e14 lo hi v (fun A c=>.tuple #[.agg (ctC (cm12 0) A 3 c),.bool true])
  | 5=>fun lo hi v w=>CtS w w2.heap.size e14 lo hi v (fun A c=>.agg (ctC (cm12 0) A 3 c))
  | 7=>fun lo hi v w=>AgZ w w2.heap.size lo hi (zS6:Array Value).toList v
  | _=>fun _ _ _ _=>True) (fun ix9=>match ix9 with
  | 4=>3
  | 5=>4
  | ix8=>ix8) (fun ix9=>match ix9 with
  | 4=>3
  | 5=>3
  | ix8=>ix8) (fun ix9=>match ix9 with
  | 6=>true
  | _=>false) 7 (fun v W=>CeF p w2 v W) rfl (by kernel_rfl) (by kernel_rfl) (by kernel_rfl) (by kernel_rfl) rfl rfl (by decide) (fun _=>trivial) ?_ ?_ ?_ ?_ ?_ (fun o ho=>by cases ho;rfl) (fun v x y h hg=>CeF.gr h hg) ?_
 ·simp only [actOf,tk1,tk0,dr1,dr0,Act.put,si1,st1,st0,Nat.reduceAdd]
  refine⟨?_,?_,?_,?_,?_,?_,?_,?_,trivial⟩
  ·intro vs lo hi y hg hd hvia
   replace hg:Kp (fun j=>∃ i,i<4∧j=p i+1) w2 y:=hg
   clear hvia
   dsimp only
   go_wp2_with fail
   first | exact⟨rfl,_,rfl,za _,rfl⟩ | exact⟨rfl,_,rfl,za _,rfl,trivial⟩
  ·intro vs lo hi y hg hd hvia
   replace hg:Kp (fun j=>∃ i,i<4∧j=p i+1) w2 y:=hg
   clear hvia
   dsimp only
   have hm:=HKM.out y hg
   go_wp2_with(with_reducible refine wpList_load_mid rfl 91 (.tmp 2) rfl qk 0 rfl kc.toList _ hm hkt rfl HSKL.out ?_;simp only [zT9])
   first | exact⟨rfl,_,rfl,za _,rfl⟩ | exact⟨rfl,_,rfl,za _,rfl,trivial⟩
  ·intro vs lo hi y hg hd hvia
   replace hg:Kp (fun j=>∃ i,i<4∧j=p i+1) w2 y:=hg
   clear hvia
   dsimp only
   go_wp2_with(go_at_call 55;refine(CC.out y).mono ?_;rintro e z ⟨rfl,gz⟩)
   exact⟨rfl,_,rfl,gz,rfl,trivial⟩
  ·intro vs lo hi y hg hd hvia
   replace hg:Grew w2 y:=hg
   obtain⟨h0,h1,h2,_⟩:=hd
   replace h0:=h0 rfl
   replace h1:=h1 rfl
   replace h2:=h2 rfl
   clear hvia
   dsimp only
   rw [show vs 0=_ from h0,show vs 1=_ from h1,show vs 2=_ from h2]
   go_wp2_with(go_at_call 54;refine(CM.out y hg).mono ?_;rintro e z ⟨hce,⟨v9,rfl⟩,hk9⟩)
   exact⟨rfl,_,rfl,hk9,trivial,hce⟩
  ·intro vs lo hi y hg hd hvia
   replace hg:Kp (fun j=>∃ i,i<4∧j=p i+1) w2 y:=hg
   obtain⟨h3,_⟩:=hd
   replace h3:=h3 rfl
   have hv9:(fun lo hi v w=>CeY p w w2.heap.size lo hi v) (lo 3) (hi 3) (vs 3) y:=hvia rfl
   clear hvia
   dsimp only
   obtain⟨A9,c9,M9,e9,hr9⟩:=CtS.out (CeY.sk hv9)
   rw [e9]
   go_wp2_with fail
   exact⟨rfl,_,rfl,za _,⟨A9,⟨c9,rfl⟩⟩,⟨A9,c9,M9,rfl,hr9⟩⟩
  ·intro vs lo hi y hg hd hvia
   replace hg:Kp (fun j=>∃ i,i<4∧j=p i+1) w2 y:=hg
   obtain⟨h4,_⟩:=hd
   replace h4:=h4 rfl
   have hv9:(fun lo hi v w=>CtS w w2.heap.size e14 lo hi v (fun A c=>.tuple #[.agg (ctC (cm12 0) A 3 c),.bool true])) (lo 4) (hi 4) (vs 4) y:=hvia rfl
   clear hvia
   dsimp only
   obtain⟨A9,c9,M9,e9,hr9⟩:=CtS.out hv9
   rw [e9]
   go_wp2_with fail
   exact⟨rfl,_,rfl,za _,⟨A9,c9,M9,rfl,hr9⟩⟩
  ·intro vs lo hi y hg hd hvia
   replace hg:Kp (fun j=>∃ i,i<4∧j=p i+1) w2 y:=hg
   obtain⟨h4,_⟩:=hd
   replace h4:=h4 rfl
   clear hvia
   dsimp only
   obtain⟨A9,c9,e9⟩:=h4
   rw [e9]
   go_wp2_with fail
   first | exact⟨rfl,_,rfl,za _,rfl⟩ | exact⟨rfl,_,rfl,za _,rfl,trivial⟩
  ·intro vs lo hi y hg hd hvia
   replace hg:Kp (fun j=>∃ i,i<4∧j=p i+1) w2 y:=hg
   clear hvia
   dsimp only
   go_wp2_with fail
   exact⟨rfl,_,rfl,ze (za _) _,⟨y.heap.size,rfl,Ag.new y 43 (#[.int .i64 0,.int .i64 0,.int .i64 0,.int .i64 0,.int .i64 0,.slice none 0 0]:Array Value),hg.size,zN9 _,by show y.heap.size<(y.alloc _).heap.size;simp⟩⟩
 ·refine⟨(fun h=>absurd h (by decide)),(fun h=>absurd h (by decide)),(fun h=>absurd h (by decide)),(fun h=>absurd h (by decide)),(fun h=>absurd h (by decide)),(fun h=>absurd h (by decide)),?_,(fun h=>absurd h (by decide)),(fun h=>absurd h (by decide)),trivial⟩
  ·intro _ vs y hd
   obtain⟨h4,_⟩:=hd
   replace h4:=h4 rfl
   simp only [actOf,tk1,tk0,dr1,dr0,Act.put,si1,st1,st0,Nat.reduceAdd]
   obtain⟨A9,c9,e9⟩:=h4
   rw [e9]
   go_wp2_with fail
   first | exact⟨rfl,_,rfl,za _,rfl⟩ | exact⟨rfl,_,rfl,za _,rfl,trivial⟩
 ·intro lo hi v x y h hg
  exact CeY.gr h hg
 ·intro i lo hi v x y hne hx h hg
  match i,h with
  | 3,h=>exact absurd rfl hne
  | 4,h=>exact CtS.kp h hg HSB.out
  | 5,h=>exact CtS.kp h hg HSB.out
  | 7,h=>exact AgZ.kp h hg HSB.out
  | 0,_=>trivial
  | 1,_=>trivial
  | 2,_=>trivial
  | 6,_=>trivial
  | m+8,_=>trivial
 ·intro vs lo hi y hg hJ hK hB hD
  replace hg:Kp (fun j=>∃ i,i<4∧j=p i+1) w2 y:=hg
  have k27:=hK 3 (by decide) rfl
  have b27:=hB 3 (by decide) rfl
  have k23:=hK 4 (by decide) rfl
  have b23:=hB 4 (by decide) rfl
  have k28:=hK 5 (by decide) rfl
  have b28:=hB 5 (by decide) rfl
  have k3:=hK 7 (by decide) rfl
  have b3:=hB 7 (by decide) rfl
  have d27_3:=hD 3 (by decide) rfl 7 (by decide) rfl (by decide)
  have d23_3:=hD 4 (by decide) rfl 7 (by decide) rfl (by decide)
  have d28_3:=hD 5 (by decide) rfl 7 (by decide) rfl (by decide)
  clear hK hB hD
  have j0:vs 0=.slice (some lad) 4 Lc:=hJ 0 (by decide) rfl
  have j1:vs 1=.agg kc:=hJ 1 (by decide) rfl
  have j2:vs 2=.agg (cm12 0).cells:=hJ 2 (by decide) rfl
  clear hJ
  simp only [actOf,tk1,tk0,dr1,dr0,Act.put,si1,st1,st0,Nat.reduceAdd]
  obtain⟨A7,k7,M7,e28,hmv7,hsp7,hb7,hr7,hs7⟩:=CtS.out k28
  obtain⟨q,e3,zq,hBq,hql,hqh⟩:=AgZ.out k3
  have hky:=CeY.ky k27
  rw [e28,e3]
  have HTH:Hid (y.there q 0 (ctC (cm12 0) A7 3 k7).size):=hQ9 (zq.thereN 6 rfl)
  have HSI:Hid (zI9 43=some (ctC (cm12 0) A7 3 k7).size):=hQ9 yh
  have HON:=hQ9 (kx (cm12 0) A7 3 k7)
  have z4:=Ag.set (vs:=(ctC (cm12 0) A7 3 k7).toList) zq rfl
  have k4:=zn (ctC (cm12 0) A7 3 k7).toList q 0 y
  have hsp8:=hsp7.kpx k4 (fun ad h e=>by have:=hr7 ad h;have e:ad.block=q:=e;rcases d28_3 with h2 | h2<;>omega) (fun S hS ad h=>(hs7 S hS ad h).imp id (fun h1 e=>by have e:ad.block=q:=e;rcases d28_3 with h2 | h2<;>omega))
  have HF:Hid (CeF p w2 (.pointer (some ⟨q,0,none⟩)) (y.setCells q 0 (ctC (cm12 0) A7 3 k7).toList)):=hQ9 ⟨A7,k7,M7,q,rfl,z4,hmv7,hsp8,by omega,fun ad h=>by have:=hr7 ad h;omega,fun S hS ad h=>(hs7 S hS ad h).imp id (fun h1=>by omega),zbh hg k4 (by omega),fun i hi=>(hky i hi).kp k4 (fun h=>by have h:p i+1=q:=h;have:=HQB.out i hi;have:=HQK.out;omega) (fun h=>by have h:p i=q:=h;have:=HQB.out i hi;have:=HQK.out;omega)⟩
  clear hg z4 k4 zq hsp7 hsp8 hmv7 hky
  generalize ctC (cm12 0) A7 3 k7=gs' at *
  go_wp2_with(with_reducible refine wpList_store_mid rfl 43 (.tmp 3) (.tmp 28) rfl q 0 gs' rfl rfl HTH.out HSI.out HON.out ?_)
  exact HF.out
 ·intro vs w4 hF hJ
  have j0:vs 0=.slice (some lad) 4 Lc:=hJ 0 (by decide)
  have j1:vs 1=.agg kc:=hJ 1 (by decide)
  have j2:vs 2=.agg (cm12 0).cells:=hJ 2 (by decide)
  have j6:vs 6=.bool true:=hJ 6 (by decide)
  clear hJ
  simp only [actOf,tk1,tk0,dr1,dr0,Act.put,si1,st1,st0,Nat.reduceAdd]
  obtain⟨A3c,k3,MC,q3,e3,zc,hmv3,hsp3,hq3,hAb,hMb,kkp,hky⟩:=hF
  rw [e3,show vs 6=_ from j6]
  have hML:MC.length=3:=by rw [hmv3.len];rfl
  have HML:=hQ9 hML
  have HMV3:=hQ9 hmv3
  have GW4:Grew w w4:=zV G2 kkp G2.size (fun i ⟨j,hj,h⟩=>by have:=(HP.out j hj).1;omega)
  have zk:=z2.kp kkp (fun⟨i,hi,h⟩=>by have:=HQB.out i hi;omega)
  have HLB:Hid (lad.block<w2.heap.size):=hQ9 (by have:=yy (HLD.out 0 (by decide));rwa [zy]at this)
  have HLD4:Hid (∀ i,i<4→w4.cell? (lad.add i)=some (.pointer (some ⟨p i+1,0,none⟩))):=hQ9 (fun i hi=>(World.cell?_of_block (by rw [zy];exact kkp.block lad.block HLB.out (fun⟨j,hj,h⟩=>FL.out j hj h))).trans (HLD.out i hi))
  have HRB:Hid (∀ ad,RA=some ad→ad.block<w2.heap.size):=hQ9 (fun ad e=>by
   obtain⟨ad2,e2,hb,_⟩:=rR2 0 (by simp [u64L,xG])
   rw [e]at e2;cases e2;exact hb)
  have rR4:=(rR2.kp kkp (zN9 _) (fun ad e h1 ⟨j,hj,h⟩=>FR.out j hj ad e h)).more kkp.size
  have HCI:Hid ((cm12 0).in):=hQ9 (xj (ok12 0 (by omega)))
  obtain⟨d,hd⟩:∃ d,ctD (cm12 0) MC=d:=⟨_,rfl⟩
  have HD:=hQ9 hd
  have HDL:Hid (d<18446744073709551616):=hQ9 (by rw [←hd];exact xe _ _)
  obtain⟨ct,hct0⟩:∃ v,ctC (cm12 0) A3c 3 k3=v:=⟨_,rfl⟩
  rw [hct0]at zc
  have HCT0:=hQ9 hct0
  have HCTL:Hid (zI9 43=some ct.toList.length):=hQ9 (by rw [←hct0];exact yh)
  obtain⟨i1,hi,hz0,hz1,hz2⟩:=info_parts zbe
  have hut:=Tryz.underlying79
  obtain⟨B0,hB0⟩:∃ b,w4.heap.size=b:=⟨_,rfl⟩
  have HBE:Hid (w2.heap.size≤B0∧q3<B0∧w.heap.size≤B0):=hQ9 (by rw [←hB0];exact⟨kkp.size,zc.lt,GW4.size⟩)
  have HBB:Hid (B0≤w4.heap.size):=hQ9 (by omega)
  have HAU:Hid (∀ ad,A3c=some ad→ad.block<B0):=hQ9 (fun ad e=>by
   obtain⟨qq,hq1,hq2,-⟩:=hsp3.get 0 (by rw [hML];decide)
   rw [e]at hq1;cases hq1;rw [←hB0];exact hq2)
  have HMU:Hid (∀ S∈MC,∀ ad,S.A=some ad→S.l=[]∨ad.block<B0):=hQ9 (fun S hS ad e=>by rw [←hB0];exact at_lt (hsp3.at_ S hS) ad e)
  have HAB:=hQ9 hAb
  have HMB:=hQ9 hMb
  have HQ3:Hid (w2.heap.size≤q3):=hQ9 hq3
  have hown0:w4.ownsRow B0 79 23 (.slice none 0 0) 0 (apL []).flatten:=World.ownsRow_nil _ _ _ _
  have HK4:=hQ9 hky
  clear hmv3 hML kkp hky HKS G2 z2 rR2 HLD e3 hd hct0 hB0 hAb hMb hq3 CM CC HKM HSB
  clear j0 j1 j2
  go_wp2_with fail
  go_loopw [5,6] (fun rv iv wr=>∃(n:Nat) (M:List AP),n≤3∧iv=.int .i64 (3-(n:Int))∧B0≤wr.heap.size∧MvA (m14 d n) M∧(∀ S∈M,S.ok)∧(∀ S∈M,S.at wr)∧(∀ S∈M,∀ ad,S.A=some ad→∀ g,rv.ownBlock=some g→S.l=[]∨ad.block≠g)∧(∀ S∈M,∀ ad,S.A=some ad→S.l=[]∨B0≤ad.block)∧wr.ownsRow B0 79 23 rv n (apL M).flatten∧(∀ i,i+n<4→KyAt wr (p i+1) (p i) (i:Int) (sdI 3 i) (ksL 3 2 i) 1 (2^2))∧Ag wr qk kc.toList∧Ag wr q3 ct.toList∧Sps wr A3c MC∧(∀ i,i<4→wr.cell? (lad.add i)=some (.pointer (some ⟨p i+1,0,none⟩)))∧Rd wr wr.heap.size RA (u64L (rtL 3 2 4))∧Grew w wr) (fun _ iv _=>(Go.RowKit.intOf iv).toNat)
  case atStart=>exact⟨0,[],by omega,rfl,HBB.out,by simpa [m14]using MvA.nil,by simp,by simp,by simp,by simp,hown0,fun i hi=>HK4.out i (by omega),zk,zc,hsp3,HLD4.out,rR4,GW4⟩
  case round =>
   clear HK4 HLD4 zk zc hsp3 rR4 GW4 hown0 HBB
   obtain⟨n,M,hn,rfl,hB0,hmv,hok,hat,hne,hlow,hrow,hks,zk,zc,hsp,hld,rRr,hg⟩:=hrel
   by_cases hlt:n<3
   ·obtain⟨ii,hii,hin⟩:∃ ii:Nat,3-(n:Int)=(ii:Int)∧ii+n=3:=⟨3-n,by omega,by omega⟩
    rw [hii]
    have h0:(0:Int)<(ii:Int):=by omega
    have e33:decide (0<ii)=true:=decide_eq_true (by omega)
    have h00:(0:Int)≤(ii:Int):=by omega
    have h4:(ii:Int)<4:=by omega
    have hi4:ii<4:=by omega
    have e35:IntKind.i64.wrap ((ii:Int)-1)=(ii:Int)-1:=IntWalk.i64_in _ (by omega)
    have HPI:=hQ9 (HP.out ii hi4)
    have HSB:Hid (∀ g,(fun j=>j=p ii+1) g→g<wr.heap.size):=hQ9 (fun g h=>by
     have h1:g=p ii+1:=h
     have:=HQB.out ii hi4;have:=HBE.out;have:=HQK.out;omega)
    have HSY:Hid (∀ y,Grew wr y→Std y):=hQ9 (fun y k=>HS.out.grew (zb hg k))
    have HLC:Hid (∀ y,Kp (fun j=>j=p ii+1) wr y→y.cell? (lad.add ii)=some (.pointer (some ⟨p ii+1,0,none⟩))):=hQ9 (fun y k=>(World.cell?_of_block (by rw [zy];exact k.block lad.block (by have:=yy (hld ii hi4);rwa [zy]at this) (FL.out ii hi4))).trans (hld ii hi4))
    have HCT:Hid (∀ y,Kp (fun j=>j=p ii+1) wr y→y.rangeAt q3 0 ct.toList):=hQ9 (fun y k=>(zc.kp k (fun h=>by have h:q3=p ii+1:=h;have:=HQB.out ii hi4;have:=HQ3.out;have:=HQK.out;omega)).cell)
    have HKY:Hid (∀ y,Grew wr y→KyAt y (p ii+1) (p ii) (ii:Int) (sdI 3 ii) (ksL 3 2 ii) 1 (2^2)):=hQ9 (fun y k=>(hks ii (by omega)).grew k)
    have HSPY:Hid (∀ y,Grew wr y→Sps y A3c MC):=hQ9 (fun y k=>hsp.gr k)
    obtain⟨S0,hS0⟩:∃ S,ap14 d ii none 0=S:=⟨_,rfl⟩
    have HS0:=hQ9 hS0
    have CM:Hid (∀ W,Grew wr W→Calls Tryz.prog 56 #[.pointer (some ⟨p ii+1,0,none⟩),.int .i64 (ii:Int),.agg ct] W fun e w' =>
     (∃ A c,e=.returned (.tuple #[.agg (S0.mv A c).C,.int .i64 0])∧(S0.mv A c).at w'∧(∀ ad,A=some ad→W.heap.size≤ad.block))∧Tn (p ii+1) W w'∧KyAt w' (p ii+1) (p ii) (ii:Int) (sdI 3 ii) (ksL 3 2 ii) 2 (2^2)):=hQ9 (fun W g=>by
     have:=zpq ii hi4 (p ii) (cm12 0) HCI.out A3c k3 MC (by rw [HML.out];decide) W (HSY.out W g) (HSPY.out W g) (HKY.out W g)
     rw [HML.out,HCT0.out,HD.out]at this
     rw [←hS0]
     exact this)
    have HM14:Hid (m14 d (n+1)=m14 d n++[S0]):=hQ9 (by rw [←hS0,znw,show 3-n=ii by omega])
    have HSO:Hid S0.ok:=hQ9 (by rw [←hS0];exact zhf d ii HDL.out hi4 none 0)
    have HII:=hQ9 hii
    have HIN:=hQ9 hin
    have HMV:=hQ9 hmv
    have HOKM:=hQ9 hok
    have HAT:=hQ9 hat
    have HNE:=hQ9 hne
    have HLW:=hQ9 hlow
    have HROW:=hQ9 hrow
    have HKS:=hQ9 hks
    have HZK:=hQ9 zk
    have HZC:=hQ9 zc
    have HSP:=hQ9 hsp
    have HLD:=hQ9 hld
    have HRR:=hQ9 rRr
    have HGG:=hQ9 hg
    have HBW:=hQ9 hB0
    have HI4:=hQ9 hi4
    clear hS0 hii hin hmv hok hat hne hlow hrow hks zk zc hsp hld rRr hg hB0 hlt hn
    have e33b:decide ((0:Int)<(ii:Int))=true:=decide_eq_true h0
    go_upto_region 11 with fail
    try simp only [e33]
    try simp only [e33b]
    refine xa 11 12 6 (fun j=>j=p ii+1) (fun ix9=>match ix9 with
     | 0=>fun v=>v=.slice (some lad) 4 Lc
     | 1=>fun v=>v=.int .i64 (ii:Int)
     | 2=>fun v=>v=.pointer (some (lad.add ii))
     | 3=>fun v=>v=.pointer (some ⟨p ii+1,0,none⟩)
     | 4=>fun v=>v=.int .i64 (ii:Int)
     | 5=>fun v=>v=.agg ct
     | 6=>fun _=>True
     | 7=>fun v=>∃ A c,v=.tuple #[.agg (S0.mv A c).C,.int .i64 0]
     | 8=>fun _=>True
     | 9=>fun v=>v=.int .i64 0
     | 10=>fun _=>True
     | 11=>fun _=>True
     | _=>fun _=>True) (fun ix9=>match ix9 with
     | 6=>fun lo hi v w=>MkB w wr.heap.size (p ii+1) (p ii) (ii:Int) (sdI 3 ii) (ksL 3 2 ii) 2 (2^2) S0 lo hi v (fun A c=>.tuple #[.agg (S0.mv A c).C,.int .i64 0])
     | 7=>fun lo hi v w=>MkA w wr.heap.size S0 lo hi v (fun A c=>.tuple #[.agg (S0.mv A c).C,.int .i64 0])
     | 8=>fun lo hi v w=>MkA w wr.heap.size S0 lo hi v (fun A c=>.agg (S0.mv A c).C)
     | 10=>fun lo hi v w=>AgZ w wr.heap.size lo hi (zA23:Array Value).toList v
     | _=>fun _ _ _ _=>True) (fun ix9=>match ix9 with
     | 7=>6
     | 8=>7
     | ix8=>ix8) (fun ix9=>match ix9 with
     | 7=>6
     | 8=>6
     | ix8=>ix8) (fun ix9=>match ix9 with
     | 9=>true
     | _=>false) 10 (fun v W=>StB (fun j=>j=p ii+1) wr S0 (p ii+1) (p ii) (ii:Int) (sdI 3 ii) (ksL 3 2 ii) 2 (2^2) v W) rfl (by kernel_rfl) (by kernel_rfl) (by kernel_rfl) (by kernel_rfl) rfl rfl (by decide) (fun _=>trivial) ?_ ?_ ?_ ?_ ?_ (fun o ho=>by cases ho;rfl) (fun v x y h hg=>StB.gr h hg) ?_
    ·simp only [actOf,tk1,tk0,dr1,dr0,Act.put,si1,st1,st0,Nat.reduceAdd]
     refine⟨?_,?_,?_,?_,?_,?_,?_,?_,?_,?_,?_,trivial⟩
     ·intro vs lo hi y hg hd hvia
      replace hg:Kp (fun j=>j=p ii+1) wr y:=hg
      clear hvia
      dsimp only
      go_wp2_with fail
      first | exact⟨rfl,_,rfl,za _,rfl⟩ | exact⟨rfl,_,rfl,za _,rfl,trivial⟩
     ·intro vs lo hi y hg hd hvia
      replace hg:Kp (fun j=>j=p ii+1) wr y:=hg
      clear hvia
      dsimp only
      go_wp2_with fail
      first | exact⟨rfl,_,rfl,za _,rfl⟩ | exact⟨rfl,_,rfl,za _,rfl,trivial⟩
     ·intro vs lo hi y hg hd hvia
      replace hg:Kp (fun j=>j=p ii+1) wr y:=hg
      obtain⟨h0,h1,_⟩:=hd
      replace h0:=h0 rfl
      replace h1:=h1 rfl
      clear hvia
      dsimp only
      rw [show vs 0=_ from h0,show vs 1=_ from h1]
      go_wp2_with fail
      first | exact⟨rfl,_,rfl,za _,rfl⟩ | exact⟨rfl,_,rfl,za _,rfl,trivial⟩
     ·intro vs lo hi y hg hd hvia
      replace hg:Kp (fun j=>j=p ii+1) wr y:=hg
      obtain⟨h2,_⟩:=hd
      replace h2:=h2 rfl
      clear hvia
      dsimp only
      rw [show vs 2=_ from h2]
      have hc:=HLC.out y hg
      go_wp2_with fail
      first | exact⟨rfl,_,rfl,za _,rfl⟩ | exact⟨rfl,_,rfl,za _,rfl,trivial⟩
     ·intro vs lo hi y hg hd hvia
      replace hg:Kp (fun j=>j=p ii+1) wr y:=hg
      clear hvia
      dsimp only
      go_wp2_with fail
      first | exact⟨rfl,_,rfl,za _,rfl⟩ | exact⟨rfl,_,rfl,za _,rfl,trivial⟩
     ·intro vs lo hi y hg hd hvia
      replace hg:Kp (fun j=>j=p ii+1) wr y:=hg
      clear hvia
      dsimp only
      have hm:=HCT.out y hg
      go_wp2_with(with_reducible refine wpList_load_mid rfl 43 (.tmp 3) rfl q3 0 rfl ct.toList _ hm hct rfl HCTL.out ?_;simp only [zT9])
      first | exact⟨rfl,_,rfl,za _,rfl⟩ | exact⟨rfl,_,rfl,za _,rfl,trivial⟩
     ·intro vs lo hi y hg hd hvia
      replace hg:Grew wr y:=hg
      obtain⟨h3,h4,h5,_⟩:=hd
      replace h3:=h3 rfl
      replace h4:=h4 rfl
      replace h5:=h5 rfl
      clear hvia
      dsimp only
      rw [show vs 3=_ from h3,show vs 4=_ from h4,show vs 5=_ from h5]
      go_wp2_with(go_at_call 56;refine(CM.out y hg).mono ?_;rintro e z ⟨⟨A9,c9,rfl,hat9,hfr9⟩,ht9,hk9⟩)
      exact⟨rfl,_,rfl,kp_tn ht9,trivial,⟨⟨A9,c9,rfl,hat9,hg.size,fun ad h=>(yJ hat9 ad h).imp id (fun h2=>⟨hfr9 ad h,h2⟩)⟩,hk9⟩⟩
     ·intro vs lo hi y hg hd hvia
      replace hg:Kp (fun j=>j=p ii+1) wr y:=hg
      obtain⟨h6,_⟩:=hd
      replace h6:=h6 rfl
      have hv9:(fun lo hi v w=>MkB w wr.heap.size (p ii+1) (p ii) (ii:Int) (sdI 3 ii) (ksL 3 2 ii) 2 (2^2) S0 lo hi v (fun A c=>.tuple #[.agg (S0.mv A c).C,.int .i64 0])) (lo 6) (hi 6) (vs 6) y:=hvia rfl
      clear hvia
      dsimp only
      obtain⟨A9,c9,e9,hat9,hb9,hr9⟩:=MkA.out (MkB.sk hv9)
      rw [e9]
      go_wp2_with fail
      exact⟨rfl,_,rfl,za _,⟨A9,⟨c9,rfl⟩⟩,⟨A9,c9,rfl,hat9,hb9,hr9⟩⟩
     ·intro vs lo hi y hg hd hvia
      replace hg:Kp (fun j=>j=p ii+1) wr y:=hg
      obtain⟨h7,_⟩:=hd
      replace h7:=h7 rfl
      have hv9:(fun lo hi v w=>MkA w wr.heap.size S0 lo hi v (fun A c=>.tuple #[.agg (S0.mv A c).C,.int .i64 0])) (lo 7) (hi 7) (vs 7) y:=hvia rfl
      clear hvia
      dsimp only
      obtain⟨A9,c9,e9,hat9,hb9,hr9⟩:=MkA.out hv9
      rw [e9]
      go_wp2_with fail
      exact⟨rfl,_,rfl,za _,⟨A9,c9,rfl,hat9,hb9,hr9⟩⟩
     ·intro vs lo hi y hg hd hvia
      replace hg:Kp (fun j=>j=p ii+1) wr y:=hg
      obtain⟨h7,_⟩:=hd
      replace h7:=h7 rfl
      clear hvia
      dsimp only
      obtain⟨A9,c9,e9⟩:=h7
      rw [e9]
      go_wp2_with fail
      first | exact⟨rfl,_,rfl,za _,rfl⟩ | exact⟨rfl,_,rfl,za _,rfl,trivial⟩
     ·intro vs lo hi y hg hd hvia
      replace hg:Kp (fun j=>j=p ii+1) wr y:=hg
      clear hvia
      dsimp only
      go_wp2_with fail
      exact⟨rfl,_,rfl,ze (za _) _,⟨y.heap.size,rfl,Ag.new y 79 (#[.int .u64 0,.int .i64 0,.int .i64 0,.int .i64 0,.int .u64 0,.int .u64 0,.int .u64 0,.int .u64 0,.int .u64 0,.int .u64 0,.int .u64 0,.int .u64 0,.int .u64 0,.int .u64 0,.int .u64 0,.int .u64 0,.int .u64 0,.int .u64 0,.int .u64 0,.int .u64 0,.int .u64 0,.int .u64 0,.slice none 0 0]:Array Value),hg.size,zN9 _,by show y.heap.size<(y.alloc _).heap.size;simp⟩⟩
    ·refine⟨(fun h=>absurd h (by decide)),(fun h=>absurd h (by decide)),(fun h=>absurd h (by decide)),(fun h=>absurd h (by decide)),(fun h=>absurd h (by decide)),(fun h=>absurd h (by decide)),(fun h=>absurd h (by decide)),(fun h=>absurd h (by decide)),(fun h=>absurd h (by decide)),?_,(fun h=>absurd h (by decide)),(fun h=>absurd h (by decide)),trivial⟩
     ·intro _ vs y hd
      obtain⟨h7,_⟩:=hd
      replace h7:=h7 rfl
      simp only [actOf,tk1,tk0,dr1,dr0,Act.put,si1,st1,st0,Nat.reduceAdd]
      obtain⟨A9,c9,e9⟩:=h7
      rw [e9]
      go_wp2_with fail
      first | exact⟨rfl,_,rfl,za _,rfl⟩ | exact⟨rfl,_,rfl,za _,rfl,trivial⟩
    ·intro lo hi v x y h hg
     exact MkB.gr h hg
    ·intro i lo hi v x y hne hx h hg
     match i,h with
     | 6,h=>exact absurd rfl hne
     | 7,h=>exact MkA.kp h hg HSB.out
     | 8,h=>exact MkA.kp h hg HSB.out
     | 10,h=>exact AgZ.kp h hg HSB.out
     | 0,_=>trivial
     | 1,_=>trivial
     | 2,_=>trivial
     | 3,_=>trivial
     | 4,_=>trivial
     | 5,_=>trivial
     | 9,_=>trivial
     | m+11,_=>trivial
    ·intro vs lo hi y hg hJ hK hB hD
     replace hg:Kp (fun j=>j=p ii+1) wr y:=hg
     have k43:=hK 6 (by decide) rfl
     have b43:=hB 6 (by decide) rfl
     have k36:=hK 7 (by decide) rfl
     have b36:=hB 7 (by decide) rfl
     have k44:=hK 8 (by decide) rfl
     have b44:=hB 8 (by decide) rfl
     have k7:=hK 10 (by decide) rfl
     have b7:=hB 10 (by decide) rfl
     have d43_7:=hD 6 (by decide) rfl 10 (by decide) rfl (by decide)
     have d36_7:=hD 7 (by decide) rfl 10 (by decide) rfl (by decide)
     have d44_7:=hD 8 (by decide) rfl 10 (by decide) rfl (by decide)
     clear hK hB hD
     have j0:vs 0=.slice (some lad) 4 Lc:=hJ 0 (by decide) rfl
     have j1:vs 1=.int .i64 (ii:Int):=hJ 1 (by decide) rfl
     have j2:vs 2=.pointer (some (lad.add ii)):=hJ 2 (by decide) rfl
     have j3:vs 3=.pointer (some ⟨p ii+1,0,none⟩):=hJ 3 (by decide) rfl
     have j4:vs 4=.int .i64 (ii:Int):=hJ 4 (by decide) rfl
     have j5:vs 5=.agg ct:=hJ 5 (by decide) rfl
     clear hJ
     simp only [actOf,tk1,tk0,dr1,dr0,Act.put,si1,st1,st0,Nat.reduceAdd]
     obtain⟨A1,c1,e44,hat1,hb1,hr1⟩:=MkA.out k44
     obtain⟨q,e7,zq,hBq,hql,hqh⟩:=AgZ.out k7
     rw [e44,e7]
     have hky:=MkB.ky k43
     have hPI:=HPI.out
     have hPJ:=HQB.out ii HI4.out
     have hqb:=HBE.out
     have hqk:=HQK.out
     have hbz:=HBW.out
     have HNQ:Hid (∀ ad,A1=some ad→S0.l=[]∨ad.block≠q):=hQ9 (fun ad h=>by
      rcases hr1 ad h with h1 | h1
      ·exact .inl h1
      ·exact .inr (by rcases d44_7 with h2 | h2<;>omega))
     have HLO1:Hid (∀ ad,A1=some ad→S0.l=[]∨wr.heap.size≤ad.block):=hQ9 (fun ad h=>(hr1 ad h).imp id (fun h1=>by omega))
     obtain⟨gs,hgs⟩:∃ g,(S0.mv A1 c1).C=g:=⟨_,rfl⟩
     have hz24:gs.size=23:=by rw [←hgs];rfl
     have HTH:Hid (y.there q 0 gs.size):=hQ9 (zq.thereN gs.size (by rw [hz24];rfl))
     have HSI:Hid (zI9 79=some gs.size):=hQ9 (by rw [hz24];exact zJ)
     have HON:Hid (gs.all (·.oneCell')=true):=hQ9 (by rw [←hgs];exact(S0.mv A1 c1).one)
     have z4:=Ag.set (vs:=gs.toList) zq (by rw [Array.length_toList,hz24];rfl)
     have k4:=zn gs.toList q 0 y
     have HF:Hid (StB (fun j=>j=p ii+1) wr S0 (p ii+1) (p ii) (ii:Int) (sdI 3 ii) (ksL 3 2 ii) 2 (2^2) (.pointer (some ⟨q,0,none⟩)) (y.setCells q 0 gs.toList)):=hQ9 ⟨⟨A1,c1,q,rfl,by rw [hgs];exact z4,zb0 hat1 k4 (fun ad h=>HNQ.out ad h),by omega,HLO1.out,zbh hg k4 (by omega)⟩,hky.kp k4 (fun h=>by have h:p ii+1=q:=h;omega) (fun h=>by have h:p ii=q:=h;omega)⟩
     rw [hgs]
     clear hgs hg z4 k4 zq hat1 hky
     generalize gs=gs' at *
     go_wp2_with(with_reducible refine wpList_store_mid rfl 79 (.tmp 7) (.tmp 44) rfl q 0 gs' rfl rfl HTH.out HSI.out HON.out ?_)
     exact HF.out
    ·intro vs w4 hF hJ
     have j0:vs 0=.slice (some lad) 4 Lc:=hJ 0 (by decide)
     have j1:vs 1=.int .i64 (ii:Int):=hJ 1 (by decide)
     have j2:vs 2=.pointer (some (lad.add ii)):=hJ 2 (by decide)
     have j3:vs 3=.pointer (some ⟨p ii+1,0,none⟩):=hJ 3 (by decide)
     have j4:vs 4=.int .i64 (ii:Int):=hJ 4 (by decide)
     have j5:vs 5=.agg ct:=hJ 5 (by decide)
     have j9:vs 9=.int .i64 0:=hJ 9 (by decide)
     clear hJ
     simp only [actOf,tk1,tk0,dr1,dr0,Act.put,si1,st1,st0,Nat.reduceAdd]
     obtain⟨⟨A1,c1,q,e5,z4,hat4,hq4,hlo4,kk⟩,hky4⟩:=hF
     rw [e5,show vs 9=_ from j9]
     have HKY4:=hQ9 hky4
     have HFR:Hid (∀ ad,A1=some ad→S0.l=[]∨wr.heap.size≤ad.block):=hQ9 hlo4
     obtain⟨gs,hgs⟩:∃ g,(S0.mv A1 c1).C=g:=⟨_,rfl⟩
     rw [hgs]at z4
     have HGS:=hQ9 hgs
     have hz24:gs.size=23:=by rw [←hgs];rfl
     have HSL:Hid (zI9 79=some gs.toList.length):=hQ9 (by rw [Array.length_toList,hz24];exact zJ)
     have HOKS:Hid ((S0.mv A1 c1).ok):=hQ9 (AP.mv_ok HSO.out _ _)
     have hbw:=HBW.out
     have SW4:Std w4:=HS.out.grew (zV HGG.out kk HGG.out.size (fun i (h:i=p ii+1)=>by have:=HPI.out;omega))
     have KW4:(kp12 RA Rc).at w4:=(HRR.out.kp kk (zN9 _) (fun ad e h1 h=>FR.out ii HI4.out ad e h)).more kk.size
     have CVA:=hQ9 (ki (zhe RA Rc) HOKS.out w4 SW4 KW4 hat4)
     rw [HKC.out,show kvS (kp12 RA Rc) (S0.mv A1 c1)=0 from by rw [←HS0.out];exact kv14 RA Rc d ii HI4.out A1 c1,hgs]at CVA
     have hmk:=(HZK.out.kp kk (fun h=>by have h:qk=p ii+1:=h;have:=HQB.out ii HI4.out;omega)).cell
     have hm4:=z4.cell
     go_wp2_with(first
      | (refine zj (by rfl) 91 (.tmp 2) rfl qk 0 rfl kc.toList _ hmk hkt rfl HSKL.out ?_;simp only [zT9])
      | (refine zj (by rfl) 79 (.tmp 7) rfl q 0 rfl gs.toList _ hm4 hut rfl HSL.out ?_;simp only [zT9]))
     refine(CVA.out).mono ?_
     rintro e wv ⟨rfl,gg⟩
     have kk2:=yo kk (zF gg)
     have z4:=z4.grew gg
     have hat4:=hat4.gr gg
     have HKY4:=hQ9 (HKY4.out.grew gg)
     clear hm4 hmk CVA SW4 KW4 j0 j1 j2 j3 j4 j5 j9 e5
     have hpi:=HPI.out
     have hqb:=HBE.out
     have hqk:=HQK.out
     have HAT4:Hid (∀ S∈M,S.at wv):=hQ9 (fun S hS=>zb0 (HAT.out S hS) kk2 (fun ad h=>(HLW.out S hS ad h).imp id (fun h1 h3=>by omega)))
     have HROW4:=hQ9 (zo HROW.out kk2 (fun g h h3=>by
      have h1:=zN HROW.out g h
      omega))
     have HKS4:Hid (∀ i,i+(n+1)<4→KyAt wv (p i+1) (p i) (i:Int) (sdI 3 i) (ksL 3 2 i) 1 (2^2)):=hQ9 (fun i hi=>by
      have h2:=HAP.out i ii (by omega) HI4.out (by have:=HIN.out;omega)
      exact(HKS.out i (by omega)).kp kk2 (fun h=>by omega) (fun h=>by omega))
     have HZK4:=hQ9 (HZK.out.kp kk2 (fun h=>by have h:qk=p ii+1:=h;have:=HQB.out ii HI4.out;omega))
     have HZC4:=hQ9 (HZC.out.kp kk2 (fun h=>by have h:q3=p ii+1:=h;have:=HQB.out ii HI4.out;have:=HQ3.out;have:=HQK.out;omega))
     have HSP4:=hQ9 (HSP.out.kpx kk2 (fun ad e h=>by have h:ad.block=p ii+1:=h;have:=HAB.out ad e;have:=HQB.out ii HI4.out;have:=HQK.out;omega) (fun T hT ad e=>(HMB.out T hT ad e).imp id (fun h1 h=>by have h:ad.block=p ii+1:=h;have:=HQB.out ii HI4.out;have:=HQK.out;omega)))
     have HLD4:Hid (∀ i,i<4→wv.cell? (lad.add i)=some (.pointer (some ⟨p i+1,0,none⟩))):=hQ9 (fun i hi=>by
      have h1:=yy (HLD.out i hi)
      rw [zy]at h1
      exact(World.cell?_of_block (by rw [zy];exact kk2.block lad.block h1 (FL.out ii HI4.out))).trans (HLD.out i hi))
     have HRR4:=hQ9 ((HRR.out.kp kk2 (zN9 _) (fun ad e h1 h=>FR.out ii HI4.out ad e h)).more kk2.size)
     have HGG4:=hQ9 (zV HGG.out kk2 HGG.out.size (fun i (h:i=p ii+1)=>by omega))
     have HBW4:Hid (wr.heap.size≤wv.heap.size):=hQ9 kk2.size
     have HAT5:=hQ9 hat4
     have hrowv:=HROW4.out
     have hsz4:=HBW4.out
     have hm4:=z4.cell
     have hqwv:=z4.lt
     have hww:=HGG4.out.size
     clear hz24 hky4 z4 kk kk2 gg hbw hpi hqb hgs hat4 hq4 hlo4
     clear HAT HKS HZK HZC HSP HLD HRR
     have ga:=ze (za wv) (.cells gs 79)
     have HTS:Hid ((apL M).flatten++gs.toList=(apL (M++[S0.mv A1 c1])).flatten):=hQ9 (by rw [xp,HGS.out])
     have HONE:Hid (∀ u∈gs.toList,u.oneCell'=true):=hQ9 (by rw [←HGS.out];exact(S0.mv A1 c1).one')
     have HLEN:Hid (gs.toList.length=23):=hQ9 (by rw [←HGS.out];rfl)
     have HFOLD:Hid (Array.foldl (fun(cs:Array Value) (x:Value × Nat)=>cs.setIfInBounds x.snd x.fst) (zA23:Array Value) gs.zipIdx 0 23=gs):=hQ9 (by rw [←HGS.out];exact xP (S0.mv A1 c1))
     have hgs24:gs.size=23:=by rw [←HGS.out];rfl
     have hin9:=HIN.out
     have hb9:B0≤wv.heap.size:=by have:=HBW.out;omega
     go_wp2_with(first
      | (with_reducible refine wpList_load_mid rfl 79 (.tmp 7) rfl q 0 rfl gs.toList _ hm4 hut rfl HSL.out ?_;simp only [zT9])
      | (at_builtin;rw [HFOLD.out];refine zO _ rfl (.tmp 54) (.tmp 56) 104 rfl B0 79 i1 (.agg (#[.int .u64 0,.int .i64 0,.int .i64 0,.int .i64 0,.int .u64 0,.int .u64 0,.int .u64 0,.int .u64 0,.int .u64 0,.int .u64 0,.int .u64 0,.int .u64 0,.int .u64 0,.int .u64 0,.int .u64 0,.int .u64 0,.int .u64 0,.int .u64 0,.int .u64 0,.int .u64 0,.int .u64 0,.int .u64 0,.slice none 0 0]:Array Value)) 23 200 Tryz.underlying104 hi hz0 hz1 hz2 rfl (by decide) _ _ _ rfl (hrowv.alloc _) ⟨wv.heap.size,0,none⟩ 1 1 gs.toList rfl (by rw [HLEN.out]) (fun j u hj=>yg wv gs 79 j u hj) HONE.out (by unfold maxLen;omega) (by omega) (by simp;omega) ?_;intro v' w5 hown5 hgrow5 hob5))
     go_roundw
     case rel =>
      have K5:Kp (fun g=>B0≤g) wv w5:=yX (zF ga) hgrow5 (fun g e=>.inl (zu hrowv g e))
      have hpi:=HPI.out
      have hqb:=HBE.out
      have hsz5:=K5.size
      have hob:=zN HROW.out
      refine⟨n+1,M++[S0.mv A1 c1],by omega,(by have h:=HII.out;rw [show(3:Int)-((n+1:Nat):Int)=(ii:Int)-1 by omega]),by omega,by rw [HM14.out];exact HMV.out.snoc S0 A1 c1,?_,?_,?_,?_,by rw [←HTS.out];exact hown5,?_,?_,?_,?_,?_,?_,?_⟩
      ·intro T hT
       rcases List.mem_append.1 hT with h | h
       ·exact HOKM.out T h
       ·obtain rfl:T=S0.mv A1 c1:=by simpa using h
        exact AP.mv_ok HSO.out _ _
      ·intro T hT
       rcases List.mem_append.1 hT with h | h
       ·exact yO ((HAT4.out T h).gr ga) hgrow5 (fun ad e g hg=>HNE.out T h ad e g hg)
       ·obtain rfl:T=S0.mv A1 c1:=by simpa using h
        exact yO (HAT5.out.gr ga) hgrow5 (fun ad e g hg=>by
         rcases HFR.out ad e with h1 | h1
         ·exact .inl h1
         ·have:=(hob g hg).2
          exact .inr (by omega))
      ·intro T hT ad e g hg
       have hlt9:T.l=[]∨ad.block<(wv.alloc (.cells gs 79)).heap.size:=by
        rcases List.mem_append.1 hT with h | h
        ·exact yJ ((HAT4.out T h).gr ga) ad e
        ·obtain rfl:T=S0.mv A1 c1:=by simpa using h
         exact yJ (HAT5.out.gr ga) ad e
       rcases hob5 with h3 | h3
       ·rw [h3]at hg
        rcases List.mem_append.1 hT with h | h
        ·exact HNE.out T h ad e g hg
        ·obtain rfl:T=S0.mv A1 c1:=by simpa using h
         rcases HFR.out ad e with h1 | h1
         ·exact .inl h1
         ·have:=(hob g hg).2
          exact .inr (by omega)
       ·rw [h3]at hg;injection hg with hg
        rcases hlt9 with h1 | h1
        ·exact .inl h1
        ·exact .inr (by omega)
      ·intro T hT ad e
       rcases List.mem_append.1 hT with h | h
       ·exact HLW.out T h ad e
       ·obtain rfl:T=S0.mv A1 c1:=by simpa using h
        rcases HFR.out ad e with h1 | h1
        ·exact .inl h1
        ·exact .inr (by have:=HBW.out;omega)
      ·intro i hi
       have h1:=HP.out i (by omega)
       have h2:=HBE.out
       exact(HKS4.out i hi).kp K5 (fun h=>by have:=HQK.out;omega) (fun h=>by have:=HQK.out;omega)
      ·exact HZK4.out.kp K5 (fun h=>by have:=HBE.out;have:=HQK.out;omega)
      ·exact HZC4.out.kp K5 (fun h=>by have:=HBE.out;omega)
      ·exact HSP4.out.kpx K5 (fun ad e h=>by have h:B0≤ad.block:=h;have:=HAU.out ad e;omega) (fun T hT ad e=>(HMU.out T hT ad e).imp id (fun h1 h=>by have h:B0≤ad.block:=h;omega))
      ·intro i hi
       have h1:=yy (HLD4.out i hi)
       have h2:=HLB.out
       have h3:=HBE.out
       rw [zy]at h1
       exact(World.cell?_of_block (by rw [zy];exact K5.block lad.block h1 (by omega))).trans (HLD4.out i hi)
      ·exact(HRR4.out.kp K5 (zN9 _) (fun ad e h1 h=>by have:=HRB.out ad e;have:=HBE.out;omega)).more K5.size
      ·exact zV HGG4.out K5 HGG4.out.size (fun i hi=>by have:=HBE.out;omega)
     case measure=>have h:=HII.out;simp [Go.RowKit.intOf]<;>omega
   ·obtain rfl:n=3:=by omega
    rw [show(3:Int)-((3:Nat):Int)=0 from rfl]
    obtain⟨B,cap,rfl,hB,hc1,hc2,hbB⟩:=y6 hrow (by rw [hmv.len];simp [m14])
    have hapM:Aps wr B M:=⟨hB,hok,hat⟩
    obtain⟨A1,A2,A3,c1,c2,c3,hM⟩:=m14_mv hmv
    obtain⟨gb,hgB,hgb,-⟩:=hapM.get 0 (by rw [hM];simp)
    subst hgB
    have HM:Hid (M=[ap14 d 3 A3 c3,ap14 d 2 A2 c2,ap14 d 1 A1 c1]):=hQ9 hM
    have HM3:Hid (M.length=3):=hQ9 (by rw [hM];rfl)
    obtain⟨ME,hME⟩:∃ E,[ap14 d 1 A1 c1,ap14 d 2 A2 c2,ap14 d 3 A3 c3]=E:=⟨_,rfl⟩
    have HME:=hQ9 hME
    have HME3:Hid (ME.length=3):=hQ9 (by rw [←hME];rfl)
    have HMVC:Hid (mvE (kp12 RA Rc) (cm12 0) MC=0):=hQ9 (by rw [zbf HMV3.out];exact mv14 RA Rc none none none 0 0 0)
    have HSY:Hid (∀ y,Grew wr y→Std y):=hQ9 (fun y g=>HS.out.grew (zb hg g))
    have HKP:Hid (∀ y,Grew wr y→(kp12 RA Rc).at y):=hQ9 (fun y g=>rRr.gr g)
    have HKM:Hid (∀ y,Grew wr y→y.rangeAt qk 0 kc.toList):=hQ9 (fun y g=>(zk.grew g).cell)
    have HCM:Hid (∀ y,Grew wr y→y.rangeAt q3 0 ct.toList):=hQ9 (fun y g=>(zc.grew g).cell)
    have HSP:Hid (∀ y,Grew wr y→Sps y A3c MC):=hQ9 (fun y g=>hsp.gr g)
    have HAM:Hid (∀ y,Grew wr y→Aps y (some ⟨gb,0,none⟩) M):=hQ9 (fun y g=>hapM.gr g)
    have HGWR:=hQ9 hg
    have huq:=Tryz.underlying106
    have HK0:Hid (kp12 RA Rc).ok:=hQ9 (zhe RA Rc)
    have HG0:Hid (∀ y,Grew wr y→y.rangeAt gb 0 (ap14 d 3 A3 c3).C.toList):=hQ9 (fun y g=>by
     obtain⟨q,e,_,h⟩:=(HAM.out y g).get 0 (by rw [hM];simp)
     cases e
     simp only [hM,List.getElem_cons_zero,Nat.zero_mul]at h
     exact h)
    have CG:Hid (Calls Tryz.prog 45 #[.agg kc,.agg ct,.slice (some ⟨gb,0,none⟩) 3 cap] wr fun e w'=>(∃ SB k N D j E,e=.returned (.tuple #[.agg (sqC (cm12 0) SB 3 k D 3 j),.int .i64 0])∧MvL MC N∧Sps w' SB N∧MvA ME E∧Aps w' D E)∧Grew wr w'):=hQ9 (by
     have:=qP (cm12 0) HCI.out HK0.out A3c k3 MC (by rw [HML.out];decide) HMVC.out (some ⟨gb,0,none⟩) cap M (by rw [HM3.out];decide) wr (HSY.out wr (za _)) (HKP.out wr (za _)) (HSP.out wr (za _)) (HAM.out wr (za _)) (by rw [HD.out,HM.out];exact zld RA Rc d A1 A2 A3 c1 c2 c3)
     rw [HML.out,HM3.out,HCT0.out,HKC.out,HD.out,show chosenA (kp12 RA Rc) d M=ME from by rw [HM.out,zlc];exact HME.out,HME3.out]at this
     refine this.mono ?_
     rintro e w' ⟨⟨SB,k,N,D,j,E,h1,h2,h3,h4,h5,-⟩,gg⟩
     exact⟨⟨SB,k,N,D,j,E,h1,h2,h3,h4,h5⟩,gg⟩)
    have CF:Hid (∀ W,Grew wr W→Calls Tryz.prog 45 #[.agg kc,.agg ct,.slice (some ⟨gb,0,none⟩) 2 cap] W fun e w'=>e=.returned (.tuple #[.agg (#[.int .i64 0,.int .i64 0,.int .i64 0,.int .i64 0,.int .i64 0,.slice none 0 0,.slice none 0 0]:Array Value),.int .i64 8])∧Grew W w'):=hQ9 (fun W g=>by
     have ht:M.take 2=[ap14 d 3 A3 c3,ap14 d 2 A2 c2]:=by rw [HM.out];rfl
     have hl2:(M.take 2).length=2:=by rw [ht];rfl
     have:=qg (cm12 0) HCI.out HK0.out A3c k3 MC (by rw [HML.out];decide) HMVC.out (some ⟨gb,0,none⟩) cap (M.take 2) (by rw [hl2];decide) W (HSY.out W g) (HKP.out W g) (HSP.out W g) ((HAM.out W g).take 2) (by rw [HD.out,ht];exact zi5 RA Rc d A2 A3 c2 c3)
     rw [HML.out,HCT0.out,HKC.out,hl2]at this
     exact this)
    have hcap:(2:Int)≤(cap:Int):=by omega
    have hmk:=HKM.out wr (za _)
    have hmc:=HCM.out wr (za _)
    clear hrow hmv hok hat hne hlow hks zk zc hsp hld rRr hapM hM hME hB hc1 hc2 hbB hg hB0 hlt hn hi hz0 hz1 hz2 hgb
    go_wp2_with(first
     | (refine zj (by rfl) 91 (.tmp 2) rfl qk 0 rfl kc.toList _ hmk hkt rfl HSKL.out ?_;simp only [zT9])
     | (refine zj (by rfl) 43 (.tmp 3) rfl q3 0 rfl ct.toList _ hmc hct rfl HCTL.out ?_;simp only [zT9]))
    refine(CG.out).mono ?_
    rintro e wA ⟨⟨SB,sk,N,D,sj,E,rfl,mN,pN,mE,pE⟩,gA⟩
    clear CG hmk hmc
    obtain⟨sd,hD,-,-⟩:=pE.get 0 (by rw [mE.len,HME3.out];decide)
    subst hD
    obtain⟨sq,hsq⟩:∃ c,sqC (cm12 0) SB 3 sk (some ⟨sd,0,none⟩) 3 sj=c:=⟨_,rfl⟩
    have HSQ:=hQ9 hsq
    obtain⟨wB,hwB,htB,gB,zB⟩:=yT wA 106 (#[.int .i64 0,.int .i64 0,.int .i64 0,.int .i64 0,.int .i64 0,.slice none 0 0,.slice none 0 0]:Array Value) sq (by rw [←hsq];rfl)
    have HWB:=hQ9 hwB
    have HTB:=hQ9 htB
    have HSI9:Hid (zI9 106=some sq.size):=hQ9 (by rw [←hsq];exact yU)
    have HSL9:Hid (zI9 106=some sq.toList.length):=hQ9 (by rw [←hsq];exact yU)
    have HON9:Hid (sq.all (·.oneCell')=true):=hQ9 (by rw [←hsq];exact y7 _ _ _ _ _ _ _)
    rw [hsq]
    clear hsq hwB htB
    go_upto_region 16 with (with_reducible refine wpList_store_mid rfl 106 (.tmp 9) (.tmp 63) rfl wA.heap.size 0 sq rfl rfl HTB.out HSI9.out HON9.out ?_;rw [HWB.out];clear HWB HTB;generalize wA.heap.size=q9 at *)
    have GB:=zb gA gB
    have HGB:=hQ9 GB
    have HQ9:Hid (∀ y,Grew wB y→y.rangeAt q9 0 sq.toList):=hQ9 (fun y g=>(zB.grew g).cell)
    have HC6:Hid (∀ y,Grew wB y→y.cell? ⟨q9,6,none⟩=some (.slice (some ⟨sd,0,none⟩) 3 sj)):=hQ9 (fun y g=>by simpa using (zB.grew g).cell 6 _ (by rw [←HSQ.out];rfl))
    have HPN:Hid (∀ y,Grew wB y→Sps y SB N):=hQ9 (fun y g=>pN.gr (zb gB g))
    have HPE:Hid (∀ y,Grew wB y→Aps y (some ⟨sd,0,none⟩) E):=hQ9 (fun y g=>pE.gr (zb gB g))
    have HN3:Hid (N.length=3):=hQ9 (by rw [mN.len,HML.out])
    have HE3:Hid (E.length=3):=hQ9 (by rw [mE.len,HME3.out])
    have HND:Hid (ctD (cm12 0) N=d):=hQ9 (by rw [ze4 mN,HD.out])
    have HNV:Hid (mvE (kp12 RA Rc) (cm12 0) N=0):=hQ9 (by rw [zbf mN];exact HMVC.out)
    have HEQ:Hid (∃ A1 A2 A3 c1 c2 c3,E=[ap14 d 1 A1 c1,ap14 d 2 A2 c2,ap14 d 3 A3 c3]):=hQ9 (zps (by rw [HME.out];exact mE))
    clear gA gB zB pN pE mN mE GB
    refine za0 9 10 (fun ix9=>match ix9 with
     | 0=>fun v=>v=.agg kc
     | 1=>fun v=>v=.agg ct
     | 2=>fun v=>v=.slice (some ⟨gb,0,none⟩) 3 cap
     | 3=>fun v=>v=.slice (some ⟨gb,0,none⟩) 2 cap
     | 4=>fun v=>v=.tuple #[.agg (#[.int .i64 0,.int .i64 0,.int .i64 0,.int .i64 0,.int .i64 0,.slice none 0 0,.slice none 0 0]:Array Value),.int .i64 8]
     | 5=>fun v=>v=.tuple #[.agg (#[.int .i64 0,.int .i64 0,.int .i64 0,.int .i64 0,.int .i64 0,.slice none 0 0,.slice none 0 0]:Array Value),.int .i64 8]
     | 6=>fun v=>v=.agg (#[.int .i64 0,.int .i64 0,.int .i64 0,.int .i64 0,.int .i64 0,.slice none 0 0,.slice none 0 0]:Array Value)
     | 7=>fun v=>v=.int .i64 8
     | 8=>fun _=>True
     | 9=>fun _=>True
     | _=>fun _=>True) (fun ix9=>match ix9 with
     | 8=>fun lo hi v w=>AgZ w wB.heap.size lo hi (#[.int .i64 0,.int .i64 0,.int .i64 0,.int .i64 0,.int .i64 0,.slice none 0 0,.slice none 0 0]:Array Value).toList v
     | _=>fun _ _ _ _=>True) (fun ix9=>match ix9 with
     | ix8=>ix8) (fun ix9=>match ix9 with
     | ix8=>ix8) (fun ix9=>match ix9 with
     | 7=>true
     | _=>false) 8 (fun _ W=>Grew wB W) rfl (by kernel_rfl) (by kernel_rfl) (by kernel_rfl) (by kernel_rfl) rfl rfl (by decide) (fun _=>trivial) ?_ ?_ ?_ ?_ (fun o ho=>by cases ho;rfl) (fun v x y h hg=>zb h hg) ?_
    ·simp only [actOf,tk1,tk0,dr1,dr0,Act.put,si1,st1,st0,Nat.reduceAdd]
     refine⟨?_,?_,?_,?_,?_,?_,?_,?_,?_,trivial⟩
     ·intro vs lo hi y hg hd hvia
      replace hg:Grew wB y:=hg
      clear hvia
      dsimp only
      have hm:=HKM.out y (zb HGB.out hg)
      go_wp2_with(with_reducible refine wpList_load_mid rfl 91 (.tmp 2) rfl qk 0 rfl kc.toList _ hm hkt rfl HSKL.out ?_;simp only [zT9])
      first | exact⟨rfl,_,rfl,za _,rfl⟩ | exact⟨rfl,_,rfl,za _,rfl,trivial⟩
     ·intro vs lo hi y hg hd hvia
      replace hg:Grew wB y:=hg
      clear hvia
      dsimp only
      have hm:=HCM.out y (zb HGB.out hg)
      go_wp2_with(with_reducible refine wpList_load_mid rfl 43 (.tmp 3) rfl q3 0 rfl ct.toList _ hm hct rfl HCTL.out ?_;simp only [zT9])
      first | exact⟨rfl,_,rfl,za _,rfl⟩ | exact⟨rfl,_,rfl,za _,rfl,trivial⟩
     ·intro vs lo hi y hg hd hvia
      replace hg:Grew wB y:=hg
      clear hvia
      dsimp only
      go_wp2_with fail
      first | exact⟨rfl,_,rfl,za _,rfl⟩ | exact⟨rfl,_,rfl,za _,rfl,trivial⟩
     ·intro vs lo hi y hg hd hvia
      replace hg:Grew wB y:=hg
      obtain⟨h2,_⟩:=hd
      replace h2:=h2 rfl
      clear hvia
      dsimp only
      rw [show vs 2=_ from h2]
      go_wp2_with fail
      first | exact⟨rfl,_,rfl,za _,rfl⟩ | exact⟨rfl,_,rfl,za _,rfl,trivial⟩
     ·intro vs lo hi y hg hd hvia
      replace hg:Grew wB y:=hg
      obtain⟨h0,h1,h3,_⟩:=hd
      replace h0:=h0 rfl
      replace h1:=h1 rfl
      replace h3:=h3 rfl
      clear hvia
      dsimp only
      rw [show vs 0=_ from h0,show vs 1=_ from h1,show vs 3=_ from h3]
      have hgg:=zb HGB.out hg
      go_wp2_with(go_at_call 45;refine(CF.out y hgg).mono ?_;rintro e z ⟨rfl,gz⟩)
      exact⟨rfl,_,rfl,gz,rfl,trivial⟩
     ·intro vs lo hi y hg hd hvia
      replace hg:Grew wB y:=hg
      obtain⟨h4,_⟩:=hd
      replace h4:=h4 rfl
      clear hvia
      dsimp only
      rw [show vs 4=_ from h4]
      go_wp2_with fail
      first | exact⟨rfl,_,rfl,za _,rfl⟩ | exact⟨rfl,_,rfl,za _,rfl,trivial⟩
     ·intro vs lo hi y hg hd hvia
      replace hg:Grew wB y:=hg
      obtain⟨h5,_⟩:=hd
      replace h5:=h5 rfl
      clear hvia
      dsimp only
      rw [show vs 5=_ from h5]
      go_wp2_with fail
      first | exact⟨rfl,_,rfl,za _,rfl⟩ | exact⟨rfl,_,rfl,za _,rfl,trivial⟩
     ·intro vs lo hi y hg hd hvia
      replace hg:Grew wB y:=hg
      obtain⟨h5,_⟩:=hd
      replace h5:=h5 rfl
      clear hvia
      dsimp only
      rw [show vs 5=_ from h5]
      go_wp2_with fail
      first | exact⟨rfl,_,rfl,za _,rfl⟩ | exact⟨rfl,_,rfl,za _,rfl,trivial⟩
     ·intro vs lo hi y hg hd hvia
      replace hg:Grew wB y:=hg
      clear hvia
      dsimp only
      go_wp2_with fail
      exact⟨rfl,_,rfl,ze (za _) _,⟨y.heap.size,rfl,Ag.new y 106 (#[.int .i64 0,.int .i64 0,.int .i64 0,.int .i64 0,.int .i64 0,.slice none 0 0,.slice none 0 0]:Array Value),hg.size,zN9 _,by show y.heap.size<(y.alloc _).heap.size;simp⟩⟩
    ·refine⟨(fun h=>absurd h (by decide)),(fun h=>absurd h (by decide)),(fun h=>absurd h (by decide)),(fun h=>absurd h (by decide)),(fun h=>absurd h (by decide)),(fun h=>absurd h (by decide)),(fun h=>absurd h (by decide)),?_,(fun h=>absurd h (by decide)),(fun h=>absurd h (by decide)),trivial⟩
     ·intro _ vs y hd
      obtain⟨h5,_⟩:=hd
      replace h5:=h5 rfl
      simp only [actOf,tk1,tk0,dr1,dr0,Act.put,si1,st1,st0,Nat.reduceAdd]
      rw [show vs 5=_ from h5]
      go_wp2_with fail
      first | exact⟨rfl,_,rfl,za _,rfl⟩ | exact⟨rfl,_,rfl,za _,rfl,trivial⟩
    ·intro i lo hi v x y h hg
     match i,h with
     | 8,h=>exact AgZ.gr h hg
     | 0,_=>trivial
     | 1,_=>trivial
     | 2,_=>trivial
     | 3,_=>trivial
     | 4,_=>trivial
     | 5,_=>trivial
     | 6,_=>trivial
     | 7,_=>trivial
     | m+9,_=>trivial
    ·intro vs lo hi y hg hJ hK hB hD
     replace hg:Grew wB y:=hg
     have k11:=hK 8 (by decide) rfl
     have b11:=hB 8 (by decide) rfl
     clear hK hB hD
     have j0:vs 0=.agg kc:=hJ 0 (by decide) rfl
     have j1:vs 1=.agg ct:=hJ 1 (by decide) rfl
     have j2:vs 2=.slice (some ⟨gb,0,none⟩) 3 cap:=hJ 2 (by decide) rfl
     have j3:vs 3=.slice (some ⟨gb,0,none⟩) 2 cap:=hJ 3 (by decide) rfl
     have j4:vs 4=.tuple #[.agg (#[.int .i64 0,.int .i64 0,.int .i64 0,.int .i64 0,.int .i64 0,.slice none 0 0,.slice none 0 0]:Array Value),.int .i64 8]:=hJ 4 (by decide) rfl
     have j5:vs 5=.tuple #[.agg (#[.int .i64 0,.int .i64 0,.int .i64 0,.int .i64 0,.int .i64 0,.slice none 0 0,.slice none 0 0]:Array Value),.int .i64 8]:=hJ 5 (by decide) rfl
     have j6:vs 6=.agg (#[.int .i64 0,.int .i64 0,.int .i64 0,.int .i64 0,.int .i64 0,.slice none 0 0,.slice none 0 0]:Array Value):=hJ 6 (by decide) rfl
     clear hJ
     simp only [actOf,tk1,tk0,dr1,dr0,Act.put,si1,st1,st0,Nat.reduceAdd]
     obtain⟨q,e7,zq,hBq,hql,hqh⟩:=AgZ.out k11
     rw [show vs 6=_ from j6,e7]
     have HTH:Hid (y.there q 0 (#[.int .i64 0,.int .i64 0,.int .i64 0,.int .i64 0,.int .i64 0,.slice none 0 0,.slice none 0 0]:Array Value).size):=hQ9 (zq.thereN 7 rfl)
     have HSI:Hid (zI9 106=some (#[.int .i64 0,.int .i64 0,.int .i64 0,.int .i64 0,.int .i64 0,.slice none 0 0,.slice none 0 0]:Array Value).size):=hQ9 yU
     have HON:Hid ((#[.int .i64 0,.int .i64 0,.int .i64 0,.int .i64 0,.int .i64 0,.slice none 0 0,.slice none 0 0]:Array Value).all (·.oneCell')=true):=hQ9 (by simp [Value.oneCell'])
     have HF:Hid (Grew wB (y.setCells q 0 (#[.int .i64 0,.int .i64 0,.int .i64 0,.int .i64 0,.int .i64 0,.slice none 0 0,.slice none 0 0]:Array Value).toList)):=hQ9 (zh (o:=0) (b:=q) _ hg (by omega))
     clear hg zq
     generalize (#[.int .i64 0,.int .i64 0,.int .i64 0,.int .i64 0,.int .i64 0,.slice none 0 0,.slice none 0 0]:Array Value)=gs' at *
     go_wp2_with(with_reducible refine wpList_store_mid rfl 106 (.tmp 11) (.tmp 71) rfl q 0 gs' rfl rfl HTH.out HSI.out HON.out ?_)
     exact HF.out
    ·intro vs wC hF hJ
     have j0:vs 0=.agg kc:=hJ 0 (by decide)
     have j1:vs 1=.agg ct:=hJ 1 (by decide)
     have j2:vs 2=.slice (some ⟨gb,0,none⟩) 3 cap:=hJ 2 (by decide)
     have j3:vs 3=.slice (some ⟨gb,0,none⟩) 2 cap:=hJ 3 (by decide)
     have j4:vs 4=.tuple #[.agg (#[.int .i64 0,.int .i64 0,.int .i64 0,.int .i64 0,.int .i64 0,.slice none 0 0,.slice none 0 0]:Array Value),.int .i64 8]:=hJ 4 (by decide)
     have j5:vs 5=.tuple #[.agg (#[.int .i64 0,.int .i64 0,.int .i64 0,.int .i64 0,.int .i64 0,.slice none 0 0,.slice none 0 0]:Array Value),.int .i64 8]:=hJ 5 (by decide)
     have j6:vs 6=.agg (#[.int .i64 0,.int .i64 0,.int .i64 0,.int .i64 0,.int .i64 0,.slice none 0 0,.slice none 0 0]:Array Value):=hJ 6 (by decide)
     have j7:vs 7=.int .i64 8:=hJ 7 (by decide)
     clear hJ
     simp only [actOf,tk1,tk0,dr1,dr0,Act.put,si1,st1,st0,Nat.reduceAdd]
     rw [show vs 7=_ from j7]
     have hc6:=HC6.out wC hF
     have HFC:=hQ9 hF
     have hm0:=HG0.out wC (zb HGB.out hF)
     obtain⟨Sa,hSa⟩:∃ S,ap14 d 3 A3 c3=S:=⟨_,rfl⟩
     have HSA:=hQ9 hSa
     have HSAO:Hid Sa.gd:=hQ9 (by
      rw [←hSa]
      have hk:=zhf d 3 HDL.out (by omega) A3 c3
      exact⟨hk,⟨by show _≤((3:Nat):Int);decide,by show((3:Nat):Int)≤_;decide⟩,⟨by show(0:Int)≤((3:Nat):Int);decide,by show((3:Nat):Int)≤15;decide⟩,by show(0:Int)≤1;decide,by
       show(pathN (ksL 3 2 3) 1).length≤8
       unfold ksL
       rw [kE _ 2 (by omega) 1 (by decide)];omega⟩)
     have HB7:Hid (∀ A c,kvS (kp12 RA Rc) ⟨Sa.cm,0,Sa.sw,Sa.lf,Sa.s,A,c,Sa.l⟩=7):=hQ9 (fun A c=>by rw [←hSa];exact zpp RA Rc d A c _ _)
     have HAT:Hid (∀ y,Grew wr y→Sa.at y):=hQ9 (fun y g=>by
      have h:=(HAM.out y g).at_ (ap14 d 3 A3 c3) (by rw [HM.out];simp)
      rw [←hSa];exact h)
     have HGM:Hid (∀ y,Grew wr y→y.rangeAt gb 0 Sa.C.toList):=hQ9 (fun y g=>by rw [←hSa];exact HG0.out y g)
     rw [hSa]at hm0
     have SLA:Hid (zI9 79=some Sa.C.toList.length):=hQ9 zJ
     have SIA:Hid (zI9 79=some Sa.C.size):=hQ9 zJ
     have ONA:Hid (Sa.C.all (·.oneCell')=true):=hQ9 Sa.one
     obtain⟨wD,hwD,htD,gD,zD⟩:=yT wC 79 (zA23:Array Value) Sa.C rfl
     have HWD:=hQ9 hwD
     have HTD:=hQ9 htD
     have huk:=Tryz.underlying79
     clear hF j0 j1 j2 j3 j4 j5 j6 j7 hSa HG0 hwD htD
     go_upto_region 20 with (first
      | (with_reducible refine wpList_load_mid rfl 79 (.tmp 82) rfl gb 0 rfl Sa.C.toList _ hm0 huk rfl SLA.out ?_;simp only [zT9])
      | (with_reducible refine wpList_store_mid rfl 79 (.tmp 13) (.tmp 83) rfl wC.heap.size 0 Sa.C rfl rfl HTD.out SIA.out ONA.out ?_;rw [HWD.out];clear HWD HTD))
     clear hc6 hm0
     have hq13:=zD.lt
     have x1:wD.cell? ⟨wC.heap.size,1,none⟩=some (.int .i64 Sa.who):=by simpa using zD.cell 1 (.int .i64 Sa.who) rfl
     have f1:wD.frozen? ⟨wC.heap.size,1,none⟩=false:=by simpa using (zD.there 1 (by show 1<23;decide)).2
     have t6:=jS (g:=wC.heap.size) (qp _ wD) (p:=⟨wC.heap.size,1,none⟩) (.inl rfl) (.int .i64 0)
     have zE:=Ag.set1 zD 1 (.int .i64 0) (by show 1<23;decide)
     obtain⟨gx,hgx⟩:∃ g,(⟨Sa.cm,0,Sa.sw,Sa.lf,Sa.s,Sa.A,Sa.c,Sa.l⟩:AP).C=g:=⟨_,rfl⟩
     have HGX:=hQ9 hgx
     rw [show Sa.C.toList.set 1 (.int .i64 0)=gx.toList from by rw [←hgx];rfl]at zE
     have gE:=zbu gD t6 (zN9 _)
     obtain⟨wE,hwE⟩:∃ v,wD.setCell ⟨wC.heap.size,1,none⟩ (.int .i64 0)=v:=⟨_,rfl⟩
     rw [hwE]at zE gE
     have HWE:=hQ9 hwE
     have GE:=zb HFC.out gE
     have GGE:=zb HGB.out GE
     have hmE:=HGM.out wE GGE
     clear t6 hwE hgx zD gD gE hq13
     go_upto_region 21 with fail
     rw [HWE.out]
     clear x1 f1 HWE
     generalize wC.heap.size=q13 at *
     obtain⟨tx,htx⟩:∃ t:ByteArray,(⟨Sa.tx.toArray⟩:ByteArray)=t:=⟨_,rfl⟩
     have HTX:Hid (tx.data.toList=Sa.tx):=hQ9 (by rw [←htx])
     have HTZ:Hid (tx.size≤1000000):=hQ9 (by
      rw [←htx]
      show Sa.tx.toArray.size≤1000000
      rw [List.size_toArray]
      exact zg0 _ _ _ _ _ _ HSAO.out.ok.who HSAO.out.ok.sw HSAO.out.ok.lf HSAO.out.ok.len)
     have CT:Hid (∀ W,Grew wr W→Calls Tryz.prog 32 #[.agg Sa.C] W fun e w'=>e=.returned (.string tx)∧Grew W w'):=hQ9 (fun W g=>by
      have:=zpr HSAO.out.ok W (HSY.out W g) (HAT.out W g)
      rw [htx]at this
      exact this)
     clear htx
     go_wp2_with(with_reducible refine wpList_load_mid rfl 79 (.tmp 87) rfl gb 0 rfl Sa.C.toList _ hmE huk rfl SLA.out ?_;simp only [zT9])
     refine(CT.out wE GGE).mono ?_
     rintro e wF ⟨rfl,gF⟩
     clear CT hmE
     have GF:=zb GGE gF
     go_wp2_with fail
     refine(znv HSAO.out tx HTX.out HTZ.out wF (HSY.out wF GF)).mono ?_
     rintro e wG ⟨⟨AX,cX,rfl,hatX⟩,gG⟩
     obtain⟨wH,hwH,htH,gH,zH⟩:=yT wG 79 (zA23:Array Value) (Sa.mv AX cX).C rfl
     have HWH:=hQ9 hwH
     have HTH:=hQ9 htH
     have SIX:Hid (zI9 79=some (Sa.mv AX cX).C.size):=hQ9 zJ
     have SLX:Hid (zI9 79=some (Sa.mv AX cX).C.toList.length):=hQ9 zJ
     have ONX:Hid ((Sa.mv AX cX).C.all (·.oneCell')=true):=hQ9 (Sa.mv AX cX).one
     clear hwH htH
     go_upto_region 22 with (with_reducible refine wpList_store_mid rfl 79 (.tmp 14) (.tmp 91) rfl wG.heap.size 0 (Sa.mv AX cX).C rfl rfl HTH.out SIX.out ONX.out ?_;rw [HWH.out];clear HWH HTH;generalize wG.heap.size=q14 at *)
     have G7:=zb gF (zb gG gH)
     have GBH:=zb GE G7
     have GRH:=zb HGB.out GBH
     have HGF:Hid (Grew w wH):=hQ9 (zb HGWR.out GRH)
     have Y9:Hid (∀ y,Grew wH y→y.rangeAt q9 0 sq.toList):=hQ9 (fun y g=>HQ9.out y (zb GBH g))
     have Y6:Hid (∀ y,Grew wH y→y.cell? ⟨q9,6,none⟩=some (.slice (some ⟨sd,0,none⟩) 3 sj)):=hQ9 (fun y g=>HC6.out y (zb GBH g))
     have Y1:Hid (∀ y,Grew wH y→y.cell? ⟨sd,1,none⟩=some (.int .i64 1)):=hQ9 (fun y g=>by
      obtain⟨B1,B2,B3,b1,b2,b3,hE⟩:=HEQ.out
      obtain⟨q,e,_,h⟩:=(HPE.out y (zb GBH g)).get 0 (by rw [hE];simp)
      cases e
      simp only [hE,List.getElem_cons_zero,Nat.zero_mul]at h
      exact h 1 _ rfl)
     have YK:Hid (∀ y,Grew wH y→y.rangeAt qk 0 kc.toList):=hQ9 (fun y g=>HKM.out y (zb GRH g))
     have YX:Hid (∀ y,Grew wH y→y.rangeAt q13 0 gx.toList):=hQ9 (fun y g=>(zE.grew (zb G7 g)).cell)
     have YY:Hid (∀ y,Grew wH y→y.rangeAt q14 0 (Sa.mv AX cX).C.toList):=hQ9 (fun y g=>(zH.grew g).cell)
     have YA:Hid (∀ y,Grew wH y→y.rangeAt gb 0 Sa.C.toList):=hQ9 (fun y g=>HGM.out y (zb GRH g))
     have SLG:Hid (zI9 79=some gx.toList.length):=hQ9 (by rw [←HGX.out];exact zJ)
     have CVS:Hid (∀ W,Grew wH W→Calls Tryz.prog 50 #[.agg kc,.agg sq] W fun e w'=>e=.returned (.int .i64 0)∧Grew W w'):=hQ9 (fun W g=>by
      have:=ze3 (cm12 0) HCI.out HK0.out SB sk N (by rw [HN3.out];decide) HNV.out (some ⟨sd,0,none⟩) sj E (by rw [HE3.out];decide) W (HSY.out W (zb GRH g)) (HKP.out W (zb GRH g)) (HPN.out W (zb GBH g)) (HPE.out W (zb GBH g))
      obtain⟨B1,B2,B3,b1,b2,b3,hE⟩:=HEQ.out
      rw [HND.out,show cqA (kp12 RA Rc) d E=0 from by rw [hE];exact cq14 RA Rc d B1 B2 B3 b1 b2 b3,HN3.out,HE3.out,HSQ.out,HKC.out]at this
      exact this)
     have CVB:Hid (∀ W,Grew wH W→Calls Tryz.prog 35 #[.agg kc,.agg gx] W fun e w'=>e=.returned (.int .i64 7)∧Grew W w'):=hQ9 (fun W g=>by
      have hk:=HSAO.out.ok
      have:=ki (S:=⟨Sa.cm,0,Sa.sw,Sa.lf,Sa.s,Sa.A,Sa.c,Sa.l⟩) HK0.out ⟨hk.cm,⟨by show _≤(0:Int);decide,by show(0:Int)≤_;decide⟩,hk.sw,hk.lf,hk.s,hk.len,hk.l⟩ W (HSY.out W (zb GRH g)) (HKP.out W (zb GRH g)) (HAT.out W (zb GRH g))
      rw [HB7.out,HGX.out,HKC.out]at this
      exact this)
     have HLX:Hid (Sa.l.length≤1048576):=hQ9 (by have:=HSAO.out.len;omega)
     have CO1:Hid (∀ W,Grew wH W→Calls Tryz.prog 43 #[.agg (Sa.mv AX cX).C] W fun e w'=>AgK w' 0 Sa.cm Sa.who Sa.sw Sa.lf Sa.s Sa.l (match e with | .returned v=>v | _=>undef)∧(∃ v,e=.returned v)∧Grew W w'):=hQ9 (fun W g =>
      (of_ap (Sa.mv AX cX) HLX.out W (hatX.gr (zb gH g))).mono fun e w' ⟨A,c,h1,h2,h3,_⟩=>by subst h1;exact⟨⟨A,c,rfl,h2,fun ad _=>Nat.zero_le _⟩,⟨_,rfl⟩,h3⟩)
     have CO2:Hid (∀ W,Grew wH W→Calls Tryz.prog 43 #[.agg Sa.C] W fun e w'=>AgK w' 0 Sa.cm Sa.who Sa.sw Sa.lf Sa.s Sa.l (match e with | .returned v=>v | _=>undef)∧(∃ v,e=.returned v)∧Grew W w'):=hQ9 (fun W g =>
      (of_ap Sa HLX.out W (HAT.out W (zb GRH g))).mono fun e w' ⟨A,c,h1,h2,h3,_⟩=>by subst h1;exact⟨⟨A,c,rfl,h2,fun ad _=>Nat.zero_le _⟩,⟨_,rfl⟩,h3⟩)
     obtain⟨da,hda⟩:∃ x,akD 77 2=x:=⟨_,rfl⟩
     have CW:Hid (∀ W,Grew wH W→Calls Tryz.prog 40 #[.int .u64 77,.int .i64 2] W fun e w'=>e=.returned (.string ⟨#[124,97,99,107,124,48,48,48,48,48,48,48,48,48,48,48,48,48,48,52,100,124,50]⟩)∧Grew W w'):=hQ9 (fun W g=>by
      have:=za8 77 2 (by decide) ⟨by decide,by decide⟩ W (HSY.out W (zb GRH g))
      rw [zlf]at this
      exact this)
     have CD:Hid (∀ W,Grew wH W→Calls Tryz.prog 38 #[.int .u64 77,.int .i64 2] W fun e w'=>e=.returned (.int .u64 (da:Nat))∧Grew W w'):=hQ9 (fun W g=>by
      have:=kV 77 2 (by decide) ⟨by decide,by decide⟩ W (HSY.out W (zb GRH g))
      rw [hda]at this
      exact this)
     have CH:Hid (∀ W,Calls Tryz.prog 76 #[.string ⟨#[97,99,107]⟩,.string ⟨#[124,97,99,107,124,48,48,48,48,48,48,48,48,48,48,48,48,48,48,52,100,124,50]⟩] W fun e w'=>e=.returned (.int .u64 (da:Nat))∧W=w'):=hQ9 (fun W=>by
      have:=jU ⟨#[97,99,107]⟩ ⟨#[124,97,99,107,124,48,48,48,48,48,48,48,48,48,48,48,48,48,48,52,100,124,50]⟩ (by decide) (by decide) W
      rw [show sumL _ _=da from by rw [←hda];unfold akD;rw [zlf];rfl]at this
      exact this)
     clear zE zH hatX gF gG gH G7 GBH GRH GE GGE GF hda
     generalize (Sa.mv AX cX).C=gy at *
     generalize Sa.C=ga at *
     refine zv 45 (fun ix9=>match ix9 with
      | 0=>fun v _=>v=.pointer (some ⟨q9,6,none⟩)
      | 1=>fun v _=>v=.slice (some ⟨sd,0,none⟩) 3 sj
      | 2=>fun v _=>v=.pointer (some ⟨sd,0,none⟩)
      | 3=>fun v _=>v=.pointer (some ⟨sd,1,none⟩)
      | 4=>fun v _=>v=.int .i64 1
      | 5=>fun v _=>v=.bool true
      | 6=>fun v _=>v=.bool true
      | 7=>fun v _=>v=.int .i64 8
      | 8=>fun v _=>v=.bool true
      | 9=>fun v _=>v=.bool true
      | 10=>fun v _=>v=.bool true
      | 11=>fun v _=>v=.agg kc
      | 12=>fun v _=>v=.agg sq
      | 13=>fun v _=>v=.int .i64 0
      | 14=>fun v _=>v=.bool true
      | 15=>fun v _=>v=.bool true
      | 16=>fun v _=>v=.bool true
      | 17=>fun v _=>v=.agg kc
      | 18=>fun v _=>v=.agg gx
      | 19=>fun v _=>v=.int .i64 7
      | 20=>fun v _=>v=.bool true
      | 21=>fun v _=>v=.bool true
      | 22=>fun v _=>v=.bool true
      | 23=>fun v _=>v=.int .i64 0
      | 24=>fun v _=>v=.bool true
      | 25=>fun v _=>v=.bool true
      | 26=>fun v _=>v=.bool true
      | 27=>fun v _=>v=.agg gy
      | 28=>fun v w=>AgK w 0 Sa.cm Sa.who Sa.sw Sa.lf Sa.s Sa.l v
      | 29=>fun v _=>v=.slice (some ⟨gb,0,none⟩) 3 cap
      | 30=>fun v _=>v=.pointer (some ⟨gb,0,none⟩)
      | 31=>fun v _=>v=.agg ga
      | 32=>fun v w=>AgK w 0 Sa.cm Sa.who Sa.sw Sa.lf Sa.s Sa.l v
      | 33=>fun v _=>v=.bool true
      | 34=>fun v _=>v=.bool true
      | 35=>fun v _=>v=.bool true
      | 36=>fun v _=>v=.string ⟨#[124,97,99,107,124,48,48,48,48,48,48,48,48,48,48,48,48,48,48,52,100,124,50]⟩
      | 37=>fun v _=>v=.bool true
      | 38=>fun v _=>v=.bool true
      | 39=>fun v _=>v=.bool true
      | 40=>fun v _=>v=.int .u64 (da:Nat)
      | 41=>fun v _=>v=.string ⟨#[124,97,99,107,124,48,48,48,48,48,48,48,48,48,48,48,48,48,48,52,100,124,50]⟩
      | 42=>fun v _=>v=.int .u64 (da:Nat)
      | 43=>fun v _=>v=.bool true
      | 44=>fun v _=>v=.bool true
      | _=>fun _ _=>True) (by kernel_rfl) (by kernel_rfl) ?_ ?_ ?_
     ·intro i v x y h hg
      match i,h with
      | 0,h | 1,h | 2,h | 3,h | 4,h | 5,h | 6,h | 7,h | 8,h | 9,h | 10,h | 11,h | 12,h | 13,h | 14,h | 15,h | 16,h | 17,h | 18,h | 19,h | 20,h | 21,h | 22,h | 23,h | 24,h | 25,h | 26,h | 27,h | 29,h | 30,h | 31,h | 33,h | 34,h | 35,h | 36,h | 37,h | 38,h | 39,h | 40,h | 41,h | 42,h | 43,h | 44,h=>exact h
      | 28,h=>exact AgK.gr h hg
      | 32,h=>exact AgK.gr h hg
      | m+45,_=>trivial
     ·simp only [actOf,tk1,tk0,dr1,dr0,Act.put,si1,st1,st0,Nat.reduceAdd]
      refine⟨?_,?_,?_,?_,?_,?_,?_,?_,?_,?_,?_,?_,?_,?_,?_,?_,?_,?_,?_,?_,?_,?_,?_,?_,?_,?_,?_,?_,?_,?_,?_,?_,?_,?_,?_,?_,?_,?_,?_,?_,?_,?_,?_,?_,?_,trivial⟩
      ·intro vs y hg hd
       dsimp only
       go_wp2_with fail
       exact⟨rfl,_,rfl,za _,rfl⟩
      ·intro vs y hg hd
       obtain⟨h0,_⟩:=hd
       replace h0:=h0 rfl
       dsimp only
       rw [show vs 0=_ from h0]
       have hc:=Y6.out y hg
       go_wp2_with fail
       exact⟨rfl,_,rfl,za _,rfl⟩
      ·intro vs y hg hd
       obtain⟨h1,_⟩:=hd
       replace h1:=h1 rfl
       dsimp only
       rw [show vs 1=_ from h1]
       go_wp2_with fail
       exact⟨rfl,_,rfl,za _,rfl⟩
      ·intro vs y hg hd
       obtain⟨h2,_⟩:=hd
       replace h2:=h2 rfl
       dsimp only
       rw [show vs 2=_ from h2]
       go_wp2_with fail
       exact⟨rfl,_,rfl,za _,rfl⟩
      ·intro vs y hg hd
       obtain⟨h3,_⟩:=hd
       replace h3:=h3 rfl
       dsimp only
       rw [show vs 3=_ from h3]
       have hc:=Y1.out y hg
       go_wp2_with fail
       exact⟨rfl,_,rfl,za _,rfl⟩
      ·intro vs y hg hd
       obtain⟨h4,_⟩:=hd
       replace h4:=h4 rfl
       dsimp only
       rw [show vs 4=_ from h4]
       go_wp2_with fail
       exact⟨rfl,_,rfl,za _,rfl⟩
      ·intro vs y hg hd
       obtain⟨h5,_⟩:=hd
       replace h5:=h5 rfl
       dsimp only
       rw [show vs 5=_ from h5]
       go_wp2_with fail
       exact⟨rfl,_,rfl,za _,rfl⟩
      ·intro vs y hg hd
       have hx:(zB9 6 .guard→vs 6=.bool true)∧True:=hd
       have h6:vs 6=.bool true:=hx.1 rfl
       clear hx
       dsimp only
       rw [show vs 6=_ from h6]
       go_wp2_with fail
       exact⟨rfl,_,rfl,za _,rfl⟩
      ·intro vs y hg hd
       have hx:(zB9 7 .data→vs 7=.int .i64 8)∧(zB9 6 .guard→vs 6=.bool true)∧True:=hd
       have h7:vs 7=.int .i64 8:=hx.1 rfl
       have h6:vs 6=.bool true:=hx.2.1 rfl
       clear hx
       dsimp only
       rw [show vs 7=_ from h7,show vs 6=_ from h6]
       go_wp2_with fail
       exact⟨rfl,_,rfl,za _,rfl⟩
      ·intro vs y hg hd
       obtain⟨h6,h8,_⟩:=hd
       replace h6:=h6 rfl
       replace h8:=h8 rfl
       dsimp only
       rw [show vs 6=_ from h6,show vs 8=_ from h8]
       go_wp2_with fail
       exact⟨rfl,_,rfl,za _,rfl⟩
      ·intro vs y hg hd
       obtain⟨h9,_⟩:=hd
       replace h9:=h9 rfl
       dsimp only
       rw [show vs 9=_ from h9]
       go_wp2_with fail
       exact⟨rfl,_,rfl,za _,rfl⟩
      ·intro vs y hg hd
       have hx:(zB9 10 .guard→vs 10=.bool true)∧True:=hd
       have h10:vs 10=.bool true:=hx.1 rfl
       clear hx
       dsimp only
       rw [show vs 10=_ from h10]
       have hm:=YK.out y hg
       go_wp2_with(refine zj (by rfl) 91 (.tmp 2) rfl qk 0 rfl kc.toList _ hm hkt rfl HSKL.out ?_;simp only [zT9])
       exact⟨rfl,_,rfl,za _,rfl⟩
      ·intro vs y hg hd
       have hx:(zB9 10 .guard→vs 10=.bool true)∧True:=hd
       have h10:vs 10=.bool true:=hx.1 rfl
       clear hx
       dsimp only
       rw [show vs 10=_ from h10]
       have hm:=Y9.out y hg
       go_wp2_with(refine zj (by rfl) 106 (.tmp 9) rfl q9 0 rfl sq.toList _ hm huq rfl HSL9.out ?_;simp only [zT9])
       exact⟨rfl,_,rfl,za _,rfl⟩
      ·intro vs y hg hd
       have hx:(zB9 11 .data→vs 11=.agg kc)∧(zB9 12 .data→vs 12=.agg sq)∧(zB9 10 .chain→vs 10=.bool true)∧(zB9 10 .guard→vs 10=.bool true)∧True:=hd
       have h11:vs 11=.agg kc:=hx.1 rfl
       have h12:vs 12=.agg sq:=hx.2.1 rfl
       have h10:vs 10=.bool true:=hx.2.2.2.1 rfl
       clear hx
       dsimp only
       rw [show vs 11=_ from h11,show vs 12=_ from h12,show vs 10=_ from h10]
       go_wp2_with(go_at_call 50;refine(CVS.out y hg).mono ?_;rintro e z ⟨rfl,gz⟩)
       exact⟨rfl,_,rfl,gz,rfl⟩
      ·intro vs y hg hd
       have hx:(zB9 13 .data→vs 13=.int .i64 0)∧(zB9 10 .guard→vs 10=.bool true)∧True:=hd
       have h13:vs 13=.int .i64 0:=hx.1 rfl
       have h10:vs 10=.bool true:=hx.2.1 rfl
       clear hx
       dsimp only
       rw [show vs 13=_ from h13,show vs 10=_ from h10]
       go_wp2_with fail
       exact⟨rfl,_,rfl,za _,rfl⟩
      ·intro vs y hg hd
       obtain⟨h10,h14,_⟩:=hd
       replace h10:=h10 rfl
       replace h14:=h14 rfl
       dsimp only
       rw [show vs 10=_ from h10,show vs 14=_ from h14]
       go_wp2_with fail
       exact⟨rfl,_,rfl,za _,rfl⟩
      ·intro vs y hg hd
       obtain⟨h15,_⟩:=hd
       replace h15:=h15 rfl
       dsimp only
       rw [show vs 15=_ from h15]
       go_wp2_with fail
       exact⟨rfl,_,rfl,za _,rfl⟩
      ·intro vs y hg hd
       have hx:(zB9 16 .guard→vs 16=.bool true)∧True:=hd
       have h16:vs 16=.bool true:=hx.1 rfl
       clear hx
       dsimp only
       rw [show vs 16=_ from h16]
       have hm:=YK.out y hg
       go_wp2_with(refine zj (by rfl) 91 (.tmp 2) rfl qk 0 rfl kc.toList _ hm hkt rfl HSKL.out ?_;simp only [zT9])
       exact⟨rfl,_,rfl,za _,rfl⟩
      ·intro vs y hg hd
       have hx:(zB9 16 .guard→vs 16=.bool true)∧True:=hd
       have h16:vs 16=.bool true:=hx.1 rfl
       clear hx
       dsimp only
       rw [show vs 16=_ from h16]
       have hm:=YX.out y hg
       go_wp2_with(refine zj (by rfl) 79 (.tmp 13) rfl q13 0 rfl gx.toList _ hm huk rfl SLG.out ?_;simp only [zT9])
       exact⟨rfl,_,rfl,za _,rfl⟩
      ·intro vs y hg hd
       have hx:(zB9 17 .data→vs 17=.agg kc)∧(zB9 18 .data→vs 18=.agg gx)∧(zB9 16 .chain→vs 16=.bool true)∧(zB9 16 .guard→vs 16=.bool true)∧True:=hd
       have h17:vs 17=.agg kc:=hx.1 rfl
       have h18:vs 18=.agg gx:=hx.2.1 rfl
       have h16:vs 16=.bool true:=hx.2.2.2.1 rfl
       clear hx
       dsimp only
       rw [show vs 17=_ from h17,show vs 18=_ from h18,show vs 16=_ from h16]
       go_wp2_with(go_at_call 35;refine(CVB.out y hg).mono ?_;rintro e z ⟨rfl,gz⟩)
       exact⟨rfl,_,rfl,gz,rfl⟩
      ·intro vs y hg hd
       have hx:(zB9 19 .data→vs 19=.int .i64 7)∧(zB9 16 .guard→vs 16=.bool true)∧True:=hd
       have h19:vs 19=.int .i64 7:=hx.1 rfl
       have h16:vs 16=.bool true:=hx.2.1 rfl
       clear hx
       dsimp only
       rw [show vs 19=_ from h19,show vs 16=_ from h16]
       go_wp2_with fail
       exact⟨rfl,_,rfl,za _,rfl⟩
      ·intro vs y hg hd
       obtain⟨h16,h20,_⟩:=hd
       replace h16:=h16 rfl
       replace h20:=h20 rfl
       dsimp only
       rw [show vs 16=_ from h16,show vs 20=_ from h20]
       go_wp2_with fail
       exact⟨rfl,_,rfl,za _,rfl⟩
      ·intro vs y hg hd
       obtain⟨h21,_⟩:=hd
       replace h21:=h21 rfl
       dsimp only
       rw [show vs 21=_ from h21]
       go_wp2_with fail
       exact⟨rfl,_,rfl,za _,rfl⟩
      ·intro vs y hg hd
       have hx:(zB9 22 .guard→vs 22=.bool true)∧True:=hd
       have h22:vs 22=.bool true:=hx.1 rfl
       clear hx
       dsimp only
       rw [show vs 22=_ from h22]
       go_wp2_with fail
       exact⟨rfl,_,rfl,za _,rfl⟩
      ·intro vs y hg hd
       have hx:(zB9 23 .data→vs 23=.int .i64 0)∧(zB9 22 .guard→vs 22=.bool true)∧True:=hd
       have h23:vs 23=.int .i64 0:=hx.1 rfl
       have h22:vs 22=.bool true:=hx.2.1 rfl
       clear hx
       dsimp only
       rw [show vs 23=_ from h23,show vs 22=_ from h22]
       go_wp2_with fail
       exact⟨rfl,_,rfl,za _,rfl⟩
      ·intro vs y hg hd
       obtain⟨h22,h24,_⟩:=hd
       replace h22:=h22 rfl
       replace h24:=h24 rfl
       dsimp only
       rw [show vs 22=_ from h22,show vs 24=_ from h24]
       go_wp2_with fail
       exact⟨rfl,_,rfl,za _,rfl⟩
      ·intro vs y hg hd
       obtain⟨h25,_⟩:=hd
       replace h25:=h25 rfl
       dsimp only
       rw [show vs 25=_ from h25]
       go_wp2_with fail
       exact⟨rfl,_,rfl,za _,rfl⟩
      ·intro vs y hg hd
       have hx:(zB9 26 .guard→vs 26=.bool true)∧True:=hd
       have h26:vs 26=.bool true:=hx.1 rfl
       clear hx
       dsimp only
       rw [show vs 26=_ from h26]
       have hm:=YY.out y hg
       go_wp2_with(refine zj (by rfl) 79 (.tmp 14) rfl q14 0 rfl gy.toList _ hm huk rfl SLX.out ?_;simp only [zT9])
       exact⟨rfl,_,rfl,za _,rfl⟩
      ·intro vs y hg hd
       have hx:(zB9 27 .data→vs 27=.agg gy)∧(zB9 26 .chain→vs 26=.bool true)∧(zB9 26 .guard→vs 26=.bool true)∧True:=hd
       have h27:vs 27=.agg gy:=hx.1 rfl
       have h26:vs 26=.bool true:=hx.2.2.1 rfl
       clear hx
       dsimp only
       rw [show vs 27=_ from h27,show vs 26=_ from h26]
       go_wp2_with(go_at_call 43;refine(CO1.out y hg).mono ?_;rintro e z ⟨hak,⟨v9,rfl⟩,gz⟩)
       exact⟨rfl,_,rfl,gz,hak⟩
      ·intro vs y hg hd
       have hx:(zB9 26 .guard→vs 26=.bool true)∧True:=hd
       have h26:vs 26=.bool true:=hx.1 rfl
       clear hx
       dsimp only
       rw [show vs 26=_ from h26]
       go_wp2_with fail
       exact⟨rfl,_,rfl,za _,rfl⟩
      ·intro vs y hg hd
       have hx:(zB9 29 .data→vs 29=.slice (some ⟨gb,0,none⟩) 3 cap)∧(zB9 26 .guard→vs 26=.bool true)∧True:=hd
       have h29:vs 29=.slice (some ⟨gb,0,none⟩) 3 cap:=hx.1 rfl
       have h26:vs 26=.bool true:=hx.2.1 rfl
       clear hx
       dsimp only
       rw [show vs 29=_ from h29,show vs 26=_ from h26]
       go_wp2_with fail
       exact⟨rfl,_,rfl,za _,rfl⟩
      ·intro vs y hg hd
       have hx:(zB9 30 .data→vs 30=.pointer (some ⟨gb,0,none⟩))∧(zB9 26 .guard→vs 26=.bool true)∧True:=hd
       have h30:vs 30=.pointer (some ⟨gb,0,none⟩):=hx.1 rfl
       have h26:vs 26=.bool true:=hx.2.1 rfl
       clear hx
       dsimp only
       rw [show vs 30=_ from h30,show vs 26=_ from h26]
       have hm:=YA.out y hg
       go_wp2_with(refine zj (by rfl) 79 (.tmp 123) rfl gb 0 rfl ga.toList _ hm huk rfl SLA.out ?_;simp only [zT9])
       exact⟨rfl,_,rfl,za _,rfl⟩
      ·intro vs y hg hd
       have hx:(zB9 31 .data→vs 31=.agg ga)∧(zB9 28 .chain→(fun v w=>AgK w 0 Sa.cm Sa.who Sa.sw Sa.lf Sa.s Sa.l v) (vs 28) y)∧(zB9 26 .guard→vs 26=.bool true)∧True:=hd
       have h31:vs 31=.agg ga:=hx.1 rfl
       have h26:vs 26=.bool true:=hx.2.2.1 rfl
       clear hx
       dsimp only
       rw [show vs 31=_ from h31,show vs 26=_ from h26]
       go_wp2_with(go_at_call 43;refine(CO2.out y hg).mono ?_;rintro e z ⟨hak,⟨v9,rfl⟩,gz⟩)
       exact⟨rfl,_,rfl,gz,hak⟩
      ·intro vs y hg hd
       have hx:(zB9 28 .data→(fun v w=>AgK w 0 Sa.cm Sa.who Sa.sw Sa.lf Sa.s Sa.l v) (vs 28) y)∧(zB9 32 .data→(fun v w=>AgK w 0 Sa.cm Sa.who Sa.sw Sa.lf Sa.s Sa.l v) (vs 32) y)∧(zB9 32 .chain→(fun v w=>AgK w 0 Sa.cm Sa.who Sa.sw Sa.lf Sa.s Sa.l v) (vs 32) y)∧(zB9 26 .guard→vs 26=.bool true)∧True:=hd
       have h28:(fun v w=>AgK w 0 Sa.cm Sa.who Sa.sw Sa.lf Sa.s Sa.l v) (vs 28) y:=hx.1 rfl
       have h32:(fun v w=>AgK w 0 Sa.cm Sa.who Sa.sw Sa.lf Sa.s Sa.l v) (vs 32) y:=hx.2.1 rfl
       have h26:vs 26=.bool true:=hx.2.2.2.1 rfl
       clear hx
       dsimp only
       rw [show vs 26=_ from h26]
       obtain⟨A3x,c3x,hv3,hr3,-⟩:=AgK.out h28
       obtain⟨A4x,c4x,hv4,hr4,-⟩:=AgK.out h32
       rw [hv3,hv4]
       go_wp2_with(go_at_call 42;refine(zbc Sa.cm Sa.who Sa.sw Sa.lf Sa.s A3x A4x c3x c4x Sa.l HLX.out y hr3 hr4).mono ?_;rintro e z ⟨rfl,gz⟩)
       exact⟨rfl,_,rfl,gz,rfl⟩
      ·intro vs y hg hd
       obtain⟨h26,h33,_⟩:=hd
       replace h26:=h26 rfl
       replace h33:=h33 rfl
       dsimp only
       rw [show vs 26=_ from h26,show vs 33=_ from h33]
       go_wp2_with fail
       exact⟨rfl,_,rfl,za _,rfl⟩
      ·intro vs y hg hd
       obtain⟨h34,_⟩:=hd
       replace h34:=h34 rfl
       dsimp only
       rw [show vs 34=_ from h34]
       go_wp2_with fail
       exact⟨rfl,_,rfl,za _,rfl⟩
      ·intro vs y hg hd
       have hx:(zB9 35 .chain→vs 35=.bool true)∧(zB9 35 .guard→vs 35=.bool true)∧True:=hd
       have h35:vs 35=.bool true:=hx.2.1 rfl
       clear hx
       dsimp only
       rw [show vs 35=_ from h35]
       go_wp2_with(go_at_call 40;refine(CW.out y hg).mono ?_;rintro e z ⟨rfl,gz⟩)
       exact⟨rfl,_,rfl,gz,rfl⟩
      ·intro vs y hg hd
       have hx:(zB9 36 .data→vs 36=.string ⟨#[124,97,99,107,124,48,48,48,48,48,48,48,48,48,48,48,48,48,48,52,100,124,50]⟩)∧(zB9 35 .guard→vs 35=.bool true)∧True:=hd
       have h36:vs 36=.string ⟨#[124,97,99,107,124,48,48,48,48,48,48,48,48,48,48,48,48,48,48,52,100,124,50]⟩:=hx.1 rfl
       have h35:vs 35=.bool true:=hx.2.1 rfl
       clear hx
       dsimp only
       rw [show vs 36=_ from h36,show vs 35=_ from h35]
       go_wp2_with fail
       exact⟨rfl,_,rfl,za _,by simp⟩
      ·intro vs y hg hd
       obtain⟨h35,h37,_⟩:=hd
       replace h35:=h35 rfl
       replace h37:=h37 rfl
       dsimp only
       rw [show vs 35=_ from h35,show vs 37=_ from h37]
       go_wp2_with fail
       exact⟨rfl,_,rfl,za _,rfl⟩
      ·intro vs y hg hd
       obtain⟨h38,_⟩:=hd
       replace h38:=h38 rfl
       dsimp only
       rw [show vs 38=_ from h38]
       go_wp2_with fail
       exact⟨rfl,_,rfl,za _,rfl⟩
      ·intro vs y hg hd
       have hx:(zB9 39 .chain→vs 39=.bool true)∧(zB9 39 .guard→vs 39=.bool true)∧True:=hd
       have h39:vs 39=.bool true:=hx.2.1 rfl
       clear hx
       dsimp only
       rw [show vs 39=_ from h39]
       go_wp2_with(go_at_call 38;refine(CD.out y hg).mono ?_;rintro e z ⟨rfl,gz⟩)
       exact⟨rfl,_,rfl,gz,rfl⟩
      ·intro vs y hg hd
       have hx:(zB9 40 .chain→vs 40=.int .u64 (da:Nat))∧(zB9 39 .guard→vs 39=.bool true)∧True:=hd
       have h39:vs 39=.bool true:=hx.2.1 rfl
       clear hx
       dsimp only
       rw [show vs 39=_ from h39]
       go_wp2_with(go_at_call 40;refine(CW.out y hg).mono ?_;rintro e z ⟨rfl,gz⟩)
       exact⟨rfl,_,rfl,gz,rfl⟩
      ·intro vs y hg hd
       have hx:(zB9 41 .data→vs 41=.string ⟨#[124,97,99,107,124,48,48,48,48,48,48,48,48,48,48,48,48,48,48,52,100,124,50]⟩)∧(zB9 41 .chain→vs 41=.string ⟨#[124,97,99,107,124,48,48,48,48,48,48,48,48,48,48,48,48,48,48,52,100,124,50]⟩)∧(zB9 39 .guard→vs 39=.bool true)∧True:=hd
       have h41:vs 41=.string ⟨#[124,97,99,107,124,48,48,48,48,48,48,48,48,48,48,48,48,48,48,52,100,124,50]⟩:=hx.1 rfl
       have h39:vs 39=.bool true:=hx.2.2.1 rfl
       clear hx
       dsimp only
       rw [show vs 41=_ from h41,show vs 39=_ from h39]
       go_wp2_with(go_at_call 76;refine(CH.out y).mono ?_;rintro e z ⟨rfl,gz⟩)
       exact⟨rfl,_,rfl,(by rw [gz];exact za _),rfl⟩
      ·intro vs y hg hd
       have hx:(zB9 40 .data→vs 40=.int .u64 (da:Nat))∧(zB9 42 .data→vs 42=.int .u64 (da:Nat))∧(zB9 39 .guard→vs 39=.bool true)∧True:=hd
       have h40:vs 40=.int .u64 (da:Nat):=hx.1 rfl
       have h42:vs 42=.int .u64 (da:Nat):=hx.2.1 rfl
       have h39:vs 39=.bool true:=hx.2.2.1 rfl
       clear hx
       dsimp only
       rw [show vs 40=_ from h40,show vs 42=_ from h42,show vs 39=_ from h39]
       go_wp2_with fail
       exact⟨rfl,_,rfl,za _,by simp⟩
      ·intro vs y hg hd
       obtain⟨h39,h43,_⟩:=hd
       replace h39:=h39 rfl
       replace h43:=h43 rfl
       dsimp only
       rw [show vs 39=_ from h39,show vs 43=_ from h43]
       go_wp2_with fail
       exact⟨rfl,_,rfl,za _,rfl⟩
     ·intro vs wI hg hJ
      have j0:vs 0=.pointer (some ⟨q9,6,none⟩):=hJ 0 (by decide)
      have j1:vs 1=.slice (some ⟨sd,0,none⟩) 3 sj:=hJ 1 (by decide)
      have j2:vs 2=.pointer (some ⟨sd,0,none⟩):=hJ 2 (by decide)
      have j3:vs 3=.pointer (some ⟨sd,1,none⟩):=hJ 3 (by decide)
      have j4:vs 4=.int .i64 1:=hJ 4 (by decide)
      have j5:vs 5=.bool true:=hJ 5 (by decide)
      have j6:vs 6=.bool true:=hJ 6 (by decide)
      have j7:vs 7=.int .i64 8:=hJ 7 (by decide)
      have j8:vs 8=.bool true:=hJ 8 (by decide)
      have j9:vs 9=.bool true:=hJ 9 (by decide)
      have j10:vs 10=.bool true:=hJ 10 (by decide)
      have j11:vs 11=.agg kc:=hJ 11 (by decide)
      have j12:vs 12=.agg sq:=hJ 12 (by decide)
      have j13:vs 13=.int .i64 0:=hJ 13 (by decide)
      have j14:vs 14=.bool true:=hJ 14 (by decide)
      have j15:vs 15=.bool true:=hJ 15 (by decide)
      have j16:vs 16=.bool true:=hJ 16 (by decide)
      have j17:vs 17=.agg kc:=hJ 17 (by decide)
      have j18:vs 18=.agg gx:=hJ 18 (by decide)
      have j19:vs 19=.int .i64 7:=hJ 19 (by decide)
      have j20:vs 20=.bool true:=hJ 20 (by decide)
      have j21:vs 21=.bool true:=hJ 21 (by decide)
      have j22:vs 22=.bool true:=hJ 22 (by decide)
      have j23:vs 23=.int .i64 0:=hJ 23 (by decide)
      have j24:vs 24=.bool true:=hJ 24 (by decide)
      have j25:vs 25=.bool true:=hJ 25 (by decide)
      have j26:vs 26=.bool true:=hJ 26 (by decide)
      have j27:vs 27=.agg gy:=hJ 27 (by decide)
      have j29:vs 29=.slice (some ⟨gb,0,none⟩) 3 cap:=hJ 29 (by decide)
      have j30:vs 30=.pointer (some ⟨gb,0,none⟩):=hJ 30 (by decide)
      have j31:vs 31=.agg ga:=hJ 31 (by decide)
      have j33:vs 33=.bool true:=hJ 33 (by decide)
      have j34:vs 34=.bool true:=hJ 34 (by decide)
      have j35:vs 35=.bool true:=hJ 35 (by decide)
      have j36:vs 36=.string ⟨#[124,97,99,107,124,48,48,48,48,48,48,48,48,48,48,48,48,48,48,52,100,124,50]⟩:=hJ 36 (by decide)
      have j37:vs 37=.bool true:=hJ 37 (by decide)
      have j38:vs 38=.bool true:=hJ 38 (by decide)
      have j39:vs 39=.bool true:=hJ 39 (by decide)
      have j40:vs 40=.int .u64 (da:Nat):=hJ 40 (by decide)
      have j41:vs 41=.string ⟨#[124,97,99,107,124,48,48,48,48,48,48,48,48,48,48,48,48,48,48,52,100,124,50]⟩:=hJ 41 (by decide)
      have j42:vs 42=.int .u64 (da:Nat):=hJ 42 (by decide)
      have j43:vs 43=.bool true:=hJ 43 (by decide)
      have j44:vs 44=.bool true:=hJ 44 (by decide)
      have s121:=hJ 28 (by decide)
      have s125:=hJ 32 (by decide)
      clear hJ
      simp only [actOf,tk1,tk0,dr1,dr0,Act.put,si1,st1,st0,Nat.reduceAdd]
      go_wp2_with fail
      go_ret
      exact⟨rfl,zb HGF.out hg⟩
theorem kn14 (w:World) (hS:Std w):Calls Tryz.prog 28 #[] w fun e w'=>e=.returned (.bool true)∧Grew w w':=by
 obtain⟨m,h⟩:=hS.mx
 exact zi6 w hS (qu h)
theorem ze6 {K:KP} {d:Nat}:∀(L:List AP) (p:Option Int),(∀ S∈L,vdA K d S=0)→(L.map AP.who).Pairwise (·<·)→(∀ x,p=some x→∀ S∈L,x<S.who)→chqA K d p L=0
 | [],_,_,_,_=>by rw [chqA]
 | S::r,p,hv,hp,hx=>by
  rw [yY (by
   cases p with
   | none=>rfl
   | some x =>
    have:=hx x rfl S (by simp)
    simp
    omega) (hv S (by simp))]
  rw [List.map_cons,List.pairwise_cons]at hp
  exact ze6 r (some S.who) (fun T hT=>hv T (List.mem_cons_of_mem _ hT)) hp.2 (fun x e T hT=>by cases e;exact hp.1 _ (List.mem_map_of_mem hT))
theorem qQ {K:KP} {d:Nat} {L:List AP} (hen:enoughA K d L=true):(chosenA K d L).length=(2*K.f+1).toNat:=by
 unfold enoughA at hen
 have:=of_decide_eq_true hen
 unfold chosenA
 rw [List.length_take]
 omega
theorem zi7 {K:KP} {d:Nat} {L:List AP}:((chosenA K d L).map AP.who).Pairwise (·<·):=by
 unfold chosenA
 rw [List.map_take,jK]
 exact(qU AP.who _).sublist (List.take_sublist _ _)
theorem zlh {K:KP} {d:Nat} {L:List AP} (hen:enoughA K d L=true):cqA K d (chosenA K d L)=0:=by
 unfold cqA
 rw [if_pos (qQ hen)]
 refine ze6 _ none (fun S hS=>?_) zi7 (fun x e=>by cases e)
 have h1:=kI AP.who _ S (List.mem_of_mem_take hS)
 have h2:=(List.mem_filter.1 h1).2
 unfold gfB at h2
 simp only [Bool.and_eq_true,decide_eq_true_eq]at h2
 unfold vdA
 rw [if_pos h2.1]
 exact h2.2
theorem zcu {K:KP} {d:Nat}:∀(L M:List AP) (p:Option Int),L.length=M.length→(∀ i (h:i<L.length) (h':i<M.length),M[i].who=L[i].who∧vdA K d M[i]=vdA K d L[i])→chqA K d p M=chqA K d p L
 | [],[],_,_,_=>rfl
 | [],_::_,_,h,_=>by simp at h
 | _::_,[],_,h,_=>by simp at h
 | S::L,T::M,p,hl,h=>by
  obtain⟨h1,h2⟩:=h 0 (by simp) (by simp)
  simp only [List.getElem_cons_zero]at h1 h2
  have ih:=zcu L M (some S.who) (by simpa using hl) (fun i a b=>h (i+1) (Nat.succ_lt_succ a) (Nat.succ_lt_succ b))
  rw [chqA,chqA,h1,h2,ih]
theorem cqA_mv {K:KP} {d:Nat} {L M:List AP} (h:MvA L M):cqA K d M=cqA K d L:=by
 unfold cqA
 rw [h.len,zcu L M none h.len.symm (fun i a b=>by
  obtain⟨A,k,e⟩:=h.each i a b
  rw [e]
  exact⟨rfl,rfl⟩)]
def keysG (seed:Int) (p:Nat→Nat) (nx:Nat→Nat) (w:World):Prop:=∀ i,i<4→KyAt w (p i+1) (p i) (i:Int) (sdI seed i) (ksL seed 4 i) (nx i) (2^4)
theorem keysG.grew {seed:Int} {p nx:Nat→Nat} {w w':World} (h:keysG seed p nx w) (g:Grew w w'):keysG seed p nx w':=fun i hi=>(h i hi).grew g
structure CgY (seed:Int) (p:Nat→Nat) (E:List SP) (w:World) (B:Nat) (lo hi:Nat) (v:Value):Prop where
 sk:CtS w B E lo hi v (fun A c=>.tuple #[.agg (ctC (cm12 0) A 3 c),.bool true])
 ky:keysG seed p (fun _=>1) w
theorem CgY.gr {seed:Int} {p:Nat→Nat} {E:List SP} {w w':World} {B lo hi:Nat} {v:Value} (h:CgY seed p E w B lo hi v) (g:Grew w w'):CgY seed p E w' B lo hi v:=⟨h.sk.gr g,h.ky.grew g⟩
structure CgF (seed:Int) (p:Nat→Nat) (E:List SP) (w0:World) (v:Value) (W:World):Prop where
 out:∃ A c M q,v=.pointer (some ⟨q,0,none⟩)∧Ag W q (ctC (cm12 0) A 3 c).toList∧MvL E M∧Sps W A M∧w0.heap.size≤q∧(∀ ad,A=some ad→w0.heap.size≤ad.block)∧(∀ S∈M,∀ ad,S.A=some ad→S.l=[]∨w0.heap.size≤ad.block)∧Kp (fun j=>∃ i,i<4∧j=p i+1) w0 W∧keysG seed p (fun _=>1) W
theorem CgF.gr {seed:Int} {p:Nat→Nat} {E:List SP} {w0:World} {v:Value} {x y:World} (h:CgF seed p E w0 v x) (g:Grew x y):CgF seed p E w0 v y:=by
 obtain⟨A,c,M,q,h1,h2,h3,h4,h5,h6,h7,h8,h9⟩:=h.out
 exact⟨A,c,M,q,h1,h2.grew g,h3,h4.gr g,h5,h6,h7,yo h8 (zF g),h9.grew g⟩
theorem MvA.cons {L M:List AP} (h:MvA L M) (S:AP) (A:Option Addr) (c:Nat):MvA (S::L) (S.mv A c::M) :=
 ⟨by simp [h.len],fun k h1 h2=>by
  cases k with
  | zero=>exact⟨A,c,rfl⟩
  | succ k=>exact h.each k (by simpa using h1) (by simpa using h2)⟩
theorem MvA.uncons {L M:List AP} {S T:AP} (h:MvA (S::L) (T::M)):(∃ A c,T=S.mv A c)∧MvA L M :=
 ⟨h.each 0 (by simp) (by simp),by have:=h.len;simpa using this,fun k h1 h2=>h.each (k+1) (by simpa using h1) (by simpa using h2)⟩
theorem MvA.take {L M:List AP} (h:MvA L M) (n:Nat):MvA (L.take n) (M.take n) :=
 ⟨by simp [h.len],fun k h1 h2=>by
  rw [List.getElem_take,List.getElem_take]
  exact h.each k (by rw [List.length_take]at h1;omega) (by rw [List.length_take]at h2;omega)⟩
theorem jv (p:AP→Bool) (hp:∀ S A c,p (S.mv A c)=p S):∀ {L M:List AP},MvA L M→MvA (L.filter p) (M.filter p)
 | [],[],_=>MvA.nil
 | [],_::_,h=>absurd h.len (by simp)
 | _::_,[],h=>absurd h.len (by simp)
 | S::L,T::M,h=>by
  obtain⟨⟨A,c,rfl⟩,h2⟩:=h.uncons
  have ih:=jv p hp h2
  rw [List.filter_cons,List.filter_cons,hp]
  split
  ·exact ih.cons S A c
  ·exact ih
theorem ze7 (p:AP→Bool) (hp:∀ S A c,p (S.mv A c)=p S):∀ {L M:List AP},MvA L M→(L.find? p=none∧M.find? p=none)∨∃ S A c,L.find? p=some S∧M.find? p=some (S.mv A c)
 | [],[],_=>.inl ⟨rfl,rfl⟩
 | [],_::_,h=>absurd h.len (by simp)
 | _::_,[],h=>absurd h.len (by simp)
 | S::L,T::M,h=>by
  obtain⟨⟨A,c,rfl⟩,h2⟩:=h.uncons
  have ih:=ze7 p hp h2
  rw [List.find?_cons,List.find?_cons,hp]
  cases hq:p S
  ·exact ih
  ·exact .inr ⟨S,A,c,rfl,rfl⟩
theorem jw {L M:List AP} (h:MvA L M):∀ N,MvA (upTo AP.who L N) (upTo AP.who M N)
 | 0=>by simpa [upTo]using MvA.nil
 | w+1=>by
  rw [jL,jL]
  rcases ze7 (fun x=>decide (x.who=(w:Int))) (fun S A c=>rfl) h with ⟨h1,h2⟩ | ⟨S,A,c,h1,h2⟩
  ·rw [h1,h2]
   simpa using jw h w
  ·rw [h1,h2]
   exact(jw h w).snoc S A c
theorem zhh (K:KP) (d:Nat) (S:AP) (A:Option Addr) (c:Nat):gfB K d (S.mv A c)=gfB K d S:=rfl
theorem znx {K:KP} {d:Nat} {S:AP} (hK:K.ok) (h:gfB K d S=true):0≤S.who∧S.who<(((3*K.f+1).toNat:Nat):Int):=by
 unfold gfB at h
 simp only [Bool.and_eq_true,decide_eq_true_eq]at h
 have hv:=h.2
 have hf:=hK.f
 unfold kvS kvE at hv
 split at hv
 ·cases hv
 ·split at hv
  ·cases hv
  ·omega
theorem zcv {K:KP} {d:Nat} {L:List AP} (hK:K.ok):∀ x∈L.filter (gfB K d),0≤x.who∧x.who<(((3*K.f+1).toNat:Nat):Int):=fun x hx=>znx hK (List.mem_filter.1 hx).2
theorem jx {K:KP} {d:Nat} {L:List AP} (hK:K.ok):eachL AP.who (L.filter (gfB K d))=upTo AP.who (L.filter (gfB K d)) (3*K.f+1).toNat:=xi AP.who _ _ (zcv hK)
theorem zi8 {K:KP} {d:Nat} {L M:List AP} (hK:K.ok) (h:MvA L M):MvA (chosenA K d L) (chosenA K d M):=by
 unfold chosenA
 rw [jx hK,jx hK]
 exact(jw (jv _ (zhh K d) h) _).take _
theorem zi9 {K:KP} {d:Nat} {L M:List AP} (hK:K.ok) (h:MvA L M):enoughA K d M=enoughA K d L:=by
 unfold enoughA
 rw [jx hK,jx hK,(jw (jv _ (zhh K d) h) _).len]
noncomputable def apkS (K:KP) (d:Nat) (L:List AP) (v:Nat):List AP:=pickN AP.who (L.filter (gfB K d)) (2*K.f+1).toNat v
theorem ze8 {K:KP} (hK:K.ok) (d:Nat) (L:List AP):apkS K d L (3*K.f+1).toNat=chosenA K d L:=zho AP.who _ _ _ (zcv hK)
theorem zny (K:KP) (d:Nat) (L:List AP) (v:Nat):(apkS K d L v).length≤(2*K.f+1).toNat:=by
 unfold apkS
 rw [qW,List.length_take]
 omega
theorem qR {K:KP} (hK:K.ok) (d:Nat) (L:List AP):decide ((chosenA K d L).length<(2*K.f+1).toNat)=!enoughA K d L:=by
 unfold chosenA enoughA
 rw [List.length_take]
 by_cases h:(2*K.f+1).toNat≤(eachL AP.who (L.filter (gfB K d))).length
 ·rw [decide_eq_true h,zF9 (by omega)];rfl
 ·rw [zF9 h,decide_eq_true (by omega)];rfl
theorem zcw {K:KP} (d:Nat) (L:List AP) (v:Nat) (h:(2*K.f+1).toNat≤(apkS K d L v).length):∀ n,apkS K d L (v+n)=apkS K d L v
 | 0=>rfl
 | n+1=>by
  have ih:=zcw d L v h n
  show pickN AP.who _ _ (v+n+1)=_
  unfold pickN
  rw [if_neg (by
   have:pickN AP.who (L.filter (gfB K d)) (2*K.f+1).toNat (v+n)=apkS K d L v:=ih
   rw [this];omega)]
  exact ih
theorem znz {K:KP} (hK:K.ok) (d:Nat) (L:List AP) (v:Nat) (hv:v≤(3*K.f+1).toNat) (h:(2*K.f+1).toNat≤(apkS K d L v).length):apkS K d L v=chosenA K d L:=by
 rw [←ze8 hK,←zcw d L v h ((3*K.f+1).toNat-v)]
 congr 1
 omega
noncomputable def afwB (K:KP) (d v:Nat) (S:AP):Bool:=gfB K d S&&decide (S.who=(v:Int))
theorem zli {K:KP} {d:Nat} {L:List AP} {v i:Nat} (hlt:(apkS K d L v).length<(2*K.f+1).toNat) (hi:i<L.length) (hno:∀ j (hj:j<L.length),j<i→afwB K d v L[j]=false) (hy:afwB K d v L[i]=true):apkS K d L (v+1)=apkS K d L v++[L[i]]:=by
 have hf:(L.filter (gfB K d)).find? (fun x=>decide (x.who=(v:Int)))=some L[i]:=by
  rw [List.find?_filter,List.find?_eq_some_iff_getElem]
  refine⟨by unfold afwB at hy;simpa using hy,i,hi,rfl,fun j hj=>?_⟩
  have:=hno j (by omega) hj
  unfold afwB at this
  rw [Bool.and_eq_false_iff,decide_eq_false_iff_not]at this
  rw [Bool.not_eq_true',decide_eq_false_iff_not,decide_eq_true_eq]
  rintro⟨h1,h2⟩
  rcases this with h | h
  ·rw [h1]at h;cases h
  ·exact h h2
 unfold apkS at hlt ⊢
 show pickN AP.who _ _ (v+1)=_
 rw [pickN,if_pos hlt,hf]
theorem zlj {K:KP} {d:Nat} {L:List AP} {v:Nat} (hno:∀ j (hj:j<L.length),afwB K d v L[j]=false):apkS K d L (v+1)=apkS K d L v:=by
 have hf:(L.filter (gfB K d)).find? (fun x=>decide (x.who=(v:Int)))=none:=by
  rw [List.find?_filter,List.find?_eq_none]
  intro x hx
  obtain⟨j,hj,rfl⟩:=List.getElem_of_mem hx
  have:=hno j hj
  unfold afwB at this
  simpa using this
 show pickN AP.who _ _ (v+1)=_
 rw [pickN,hf]
 unfold apkS
 split<;>rfl
theorem y8 {K:KP} {d:Nat} {L:List AP} {S:AP} (h:S∈chosenA K d L):S∈L:=(List.mem_filter.1 (kI AP.who _ S (List.mem_of_mem_take h))).1
end Go.Proofs.YtkpnheenacchhaaGreatDoor
