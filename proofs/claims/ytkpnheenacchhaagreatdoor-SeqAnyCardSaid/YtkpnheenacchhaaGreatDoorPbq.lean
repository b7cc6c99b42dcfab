/- ack.Gather (mkakt.py). -/
import Derived.Test.YtkpnheenacchhaaGreatDoorPzz
import Derived.Test.YtkpnheenacchhaaGreatDoorPbp
import Derived.Test.YtkpnheenacchhaaGreatDoorPbl
import Derived.Test.YtkpnheenacchhaaGreatDoorPbf
import Derived.Test.YtkpnheenacchhaaGreatDoorPbm
import Derived.Test.YtkpnheenacchhaaGreatDoorPbn
set_option maxHeartbeats 2000000
set_option maxRecDepth 100000
set_option linter.unusedSimpArgs false
set_option linter.unusedVariables false
namespace Go.Proofs.YtkpnheenacchhaaGreatDoor
open Go.RowKit
def sqC (cc:Cm) (B:Option Addr) (n k:Nat) (D:Option Addr) (m j:Nat):Array Value:=#[.int .i64 cc.cl,.int .i64 cc.no,.int .i64 cc.fr,.int .i64 cc.tt,.int .i64 cc.am,.slice B n k,.slice D m j]
theorem yU:(Tryz.prog.info? 106).map (·.size)=some 7:=by kernel_rfl
theorem zhd:Tryz.prog.built 106 []=some (#[.int .i64 0,.int .i64 0,.int .i64 0,.int .i64 0,.int .i64 0,.slice none 0 0,.slice none 0 0]):=by kernel_rfl
theorem zns (cc:Cm) (B:Option Addr) (n k:Nat) (D:Option Addr) (m j:Nat):Tryz.prog.built 106 [(0,.agg (ctC cc B n k)),(1,.slice D m j)]=some (sqC cc B n k D m j):=by kernel_rfl
theorem y7 (cc:Cm) (B:Option Addr) (n k:Nat) (D:Option Addr) (m j:Nat):(sqC cc B n k D m j).all (·.oneCell')=true:=by simp [sqC,Value.oneCell']
theorem Aps.kpx {w w':World} {A:Option Addr} {L:List AP} {S:Nat→Prop} (h:Aps w A L) (k:Kp S w w') (hA:∀ ad,A=some ad→¬S ad.block) (hM:∀ T∈L,∀ ad,T.A=some ad→T.l=[]∨¬S ad.block):Aps w' A L :=
 ⟨h.rd.kp k (fun q e=>hA _ e),h.ok,fun T hT=>by
  by_cases hl:T.l=[]
  ·intro j hj;rw [hl]at hj;exact absurd hj (by simp [u64L])
  ·exact(Rd.kp (h.at_ T hT) k (zN9 _) (fun ad e _=>by
    rcases hM T hT ad e with h1 | h1
    ·exact absurd h1 hl
    ·exact h1)).more k.size⟩
structure CcR (w:World) (B0:Nat) (cc:Cm) (LC:List SP) (v:Value):Prop where
 out:∃ B k M,v=.agg (ctC cc B LC.length k)∧MvL LC M∧Sps w B M∧(∀ ad,B=some ad→B0≤ad.block)∧(∀ S∈M,∀ ad,S.A=some ad→S.l=[]∨B0≤ad.block)
theorem CcR.gr {w w':World} {B0:Nat} {cc:Cm} {LC:List SP} {v:Value} (h:CcR w B0 cc LC v) (g:Grew w w'):CcR w' B0 cc LC v:=by
 obtain⟨B,k,M,h1,h2,h3,h4,h5⟩:=h.out
 exact⟨B,k,M,h1,h2,h3.gr g,h4,h5⟩
structure MaR (w:World) (B0:Nat) (E:List AP) (v:Value):Prop where
 out:∃ B k M,v=.slice B E.length k∧MvA E M∧Aps w B M∧(∀ ad,B=some ad→B0≤ad.block)∧(∀ S∈M,∀ ad,S.A=some ad→S.l=[]∨B0≤ad.block)
theorem MaR.gr {w w':World} {B0:Nat} {E:List AP} {v:Value} (h:MaR w B0 E v) (g:Grew w w'):MaR w' B0 E v:=by
 obtain⟨B,k,M,h1,h2,h3,h4,h5⟩:=h.out
 exact⟨B,k,M,h1,h2,h3.gr g,h4,h5⟩
structure SqR (w:World) (B0:Nat) (cc:Cm) (LC:List SP) (E:List AP) (v:Value):Prop where
 out:∃ B k M D j N,v=.agg (sqC cc B LC.length k D E.length j)∧MvL LC M∧Sps w B M∧MvA E N∧Aps w D N∧(∀ ad,B=some ad→B0≤ad.block)∧(∀ S∈M,∀ ad,S.A=some ad→S.l=[]∨B0≤ad.block)∧(∀ ad,D=some ad→B0≤ad.block)∧(∀ S∈N,∀ ad,S.A=some ad→S.l=[]∨B0≤ad.block)
theorem SqR.gr {w w':World} {B0:Nat} {cc:Cm} {LC:List SP} {E:List AP} {v:Value} (h:SqR w B0 cc LC E v) (g:Grew w w'):SqR w' B0 cc LC E v:=by
 obtain⟨B,k,M,D,j,N,h1,h2,h3,h4,h5,h6,h7,h8,h9⟩:=h.out
 exact⟨B,k,M,D,j,N,h1,h2,h3.gr g,h4,h5.gr g,h6,h7,h8,h9⟩
theorem qg (cc:Cm) (hci:cc.in) {K:KP} (hK:K.ok) (CA:Option Addr) (ck:Nat) (LC:List SP) (hlc:LC.length≤40) (hmv0:mvE K cc LC=0) (A:Option Addr) (cap:Nat) (L:List AP) (hl:L.length≤100000) (w:World) (hS:Std w) (hk:K.at w) (hLC:Sps w CA LC) (hL:Aps w A L) (hen:enoughA K (ctD cc LC) L=false) :
 Calls Tryz.prog 45 #[.agg K.C,.agg (ctC cc CA LC.length ck),.slice A L.length cap] w fun e w'=>e=.returned (.tuple #[.agg (zQ7),.int .i64 8])∧Grew w w':=by
 have huk:=Tryz.underlying91
 have huc:=Tryz.underlying43
 have hut:=Tryz.underlying106
 have huf:=Tryz.underlying89
 have HCF:Hid (zI9 89=some [Value.int .i64 K.f].length):=hQ9 (by kernel_rfl)
 have SIK:Hid (zI9 91=some K.C.toList.length):=hQ9 (show _=some 3 by kernel_rfl)
 have SIC:Hid (zI9 43=some (ctC cc CA LC.length ck).toList.length):=hQ9 yh
 have z0:=((Ag.new w 91 K.C).grew (ze (za _) (.cells (ctC cc CA LC.length ck) 43))).grew (ze (za _) (.cells (zQ7) 106))
 have z1:=(Ag.new (w.alloc (.cells K.C 91)) 43 (ctC cc CA LC.length ck)).grew (ze (za _) (.cells (zQ7) 106))
 have z2:=Ag.new ((w.alloc (.cells K.C 91)).alloc (.cells (ctC cc CA LC.length ck) 43)) 106 (zQ7)
 rw [zl]at z1
 rw [zl,zl]at z2
 have G0:=ze (ze (ze (za w) (.cells K.C 91)) (.cells (ctC cc CA LC.length ck) 43)) (.cells (zQ7) 106)
 have CV:=hQ9 (fun W h1 h2 h3=>xH cc hK CA ck LC (by omega) W h1 h2 h3)
 rw [hmv0]at CV
 have CD:=hQ9 (fun W h1 h2=>xS cc hci CA ck LC hlc W h1 h2)
 have HS:=hQ9 hS
 have HKA:=hQ9 hk
 have HLA:=hQ9 hL
 have HLC:=hQ9 hLC
 have HC40:=hQ9 hlc
 clear hci hS hk hL hLC hmv0 hlc
 have hmk:=z0.cell
 have hmc:=z1.cell
 obtain⟨w1,hw1⟩:∃ v,((w.alloc (.cells K.C 91)).alloc (.cells (ctC cc CA LC.length ck) 43)).alloc (.cells (zQ7) 106)=v:=⟨_,rfl⟩
 rw [hw1]at z0 z1 z2 G0 hmk hmc
 have HW1:=hQ9 hw1
 clear hw1
 go_enter Tryz.func45,Tryz.ntmps45
 go_wp2_with(first
  | (with_reducible refine wpList_load_mid rfl 91 (.tmp 3) rfl w.heap.size 0 rfl K.C.toList _ (by rw [HW1.out];exact hmk) huk rfl SIK.out ?_;rw [HW1.out];simp only [zT9])
  | (with_reducible refine wpList_load_mid rfl 43 (.tmp 4) rfl (w.heap.size+1) 0 rfl (ctC cc CA LC.length ck).toList _ hmc huc rfl SIC.out ?_;simp only [zT9]))
 refine(CV.out w1 (HS.out.grew G0) (HKA.out.gr G0) (HLC.out.gr G0)).mono ?_
 rintro e w2 ⟨rfl,gg⟩
 have z0:=z0.grew gg
 have z1:=z1.grew gg
 have z2:=z2.grew gg
 clear hmk hmc
 have hmc:=z1.cell
 have G2:=zb G0 gg
 clear gg CV G0
 go_wp2_with(with_reducible refine wpList_load_mid rfl 43 (.tmp 4) rfl (w.heap.size+1) 0 rfl (ctC cc CA LC.length ck).toList _ hmc huc rfl SIC.out ?_;simp only [zT9])
 refine(CD.out w2 (HS.out.grew G2) (HLC.out.gr G2)).mono ?_
 rintro e w3 ⟨rfl,gg⟩
 obtain⟨w4,hw4,g4,hd4⟩:=qd w3 72 (.int .u64 (ctD cc LC:Nat))
 have HW4:=hQ9 hw4
 have g24:=zb gg g4
 have HZK:=hQ9 (z0.grew g24)
 have HZ1:=hQ9 (z1.grew g24)
 have HZ2:=hQ9 (z2.grew g24)
 have G4:=zb G2 g24
 have hmf:=ka HZK.out
 clear hmc z0 z1 z2 gg g4 G2 CD hw4
 go_wp2_with(first
  | (rw [HW4.out];with_reducible refine wpList_load_mid rfl 89 (.tmp 22) rfl w.heap.size 0 rfl [.int .i64 K.f] _ hmf huf rfl HCF.out ?_))
 clear hmf
 refine(zgc hK A cap L hl (ctD cc LC) w3.heap.size w.heap.size w4 (HS.out.grew G4) (HKA.out.gr G4) (HLA.out.gr G4) hd4 HZK.out hen).mono ?_
 rintro e w5 ⟨rfl,g5⟩
 have z3:=HZ2.out.grew g5
 have HTH:Hid (w5.there (w.heap.size+1+1) 0 (zQ7:Array Value).size):=hQ9 (z3.thereN 7 rfl)
 have HSI:Hid (zI9 106=some (zQ7:Array Value).size):=hQ9 yU
 have HON:Hid ((#[.int .i64 0,.int .i64 0,.int .i64 0,.int .i64 0,.int .i64 0,.slice none 0 0,.slice none 0 0]:Array Value).all (·.oneCell')=true):=hQ9 (by simp [Value.oneCell'])
 have z4:=Ag.set (vs:=(zQ7:Array Value).toList) z3 rfl
 have G5:=zh (o:=0) (b:=w.heap.size+1+1) (zQ7:Array Value).toList (zb G4 g5) (by omega)
 have hbz:=zhd
 have bz:∀ W,(Instr.build 106 #[]).run Tryz.prog W=.ok (.agg (#[.int .i64 0,.int .i64 0,.int .i64 0,.int .i64 0,.int .i64 0,.slice none 0 0,.slice none 0 0])) W:=fun W=>run_build W 106 _ _ hbz
 clear hbz z3 hd4 g5
 go_wp2_with(with_reducible refine wpList_store_mid rfl 106 (.tmp 6) (.tmp 31) rfl (w.heap.size+1+1) 0 (zQ7) rfl rfl HTH.out HSI.out HON.out ?_)
 exact bodyPost_ret (zw Tryz.results45 _ _ (w.heap.size+1+1) _ _ _ rfl rfl z4 hut rfl yU) rfl ⟨rfl,G5⟩
theorem qP (cc:Cm) (hci:cc.in) {K:KP} (hK:K.ok) (CA:Option Addr) (ck:Nat) (LC:List SP) (hlc:LC.length≤40) (hmv0:mvE K cc LC=0) (A:Option Addr) (cap:Nat) (L:List AP) (hl:L.length≤100000) (w:World) (hS:Std w) (hk:K.at w) (hLC:Sps w CA LC) (hL:Aps w A L) (hen:enoughA K (ctD cc LC) L=true) :
 Calls Tryz.prog 45 #[.agg K.C,.agg (ctC cc CA LC.length ck),.slice A L.length cap] w fun e w'=>(∃ B k M D j N,e=.returned (.tuple #[.agg (sqC cc B LC.length k D (chosenA K (ctD cc LC) L).length j),.int .i64 0])∧MvL LC M∧Sps w' B M∧MvA (chosenA K (ctD cc LC) L) N∧Aps w' D N∧(∀ ad,B=some ad→w.heap.size≤ad.block)∧(∀ S∈M,∀ ad,S.A=some ad→S.l=[]∨w.heap.size≤ad.block)∧(∀ ad,D=some ad→w.heap.size≤ad.block)∧(∀ S∈N,∀ ad,S.A=some ad→S.l=[]∨w.heap.size≤ad.block))∧Grew w w':=by
 have huk:=Tryz.underlying91
 have huc:=Tryz.underlying43
 have hut:=Tryz.underlying106
 have huf:=Tryz.underlying89
 have HCF:Hid (zI9 89=some [Value.int .i64 K.f].length):=hQ9 (by kernel_rfl)
 have SIK:Hid (zI9 91=some K.C.toList.length):=hQ9 (show _=some 3 by kernel_rfl)
 have SIC:Hid (zI9 43=some (ctC cc CA LC.length ck).toList.length):=hQ9 yh
 have z0:=((Ag.new w 91 K.C).grew (ze (za _) (.cells (ctC cc CA LC.length ck) 43))).grew (ze (za _) (.cells (zQ7) 106))
 have z1:=(Ag.new (w.alloc (.cells K.C 91)) 43 (ctC cc CA LC.length ck)).grew (ze (za _) (.cells (zQ7) 106))
 have z2:=Ag.new ((w.alloc (.cells K.C 91)).alloc (.cells (ctC cc CA LC.length ck) 43)) 106 (zQ7)
 rw [zl]at z1
 rw [zl,zl]at z2
 have G0:=ze (ze (ze (za w) (.cells K.C 91)) (.cells (ctC cc CA LC.length ck) 43)) (.cells (zQ7) 106)
 have CV:=hQ9 (fun W h1 h2 h3=>xH cc hK CA ck LC (by omega) W h1 h2 h3)
 rw [hmv0]at CV
 have CD:=hQ9 (fun W h1 h2=>xS cc hci CA ck LC hlc W h1 h2)
 have HS:=hQ9 hS
 have HKA:=hQ9 hk
 have HLA:=hQ9 hL
 have HLC:=hQ9 hLC
 have HC40:=hQ9 hlc
 clear hci hS hk hL hLC hmv0 hlc
 have hmk:=z0.cell
 have hmc:=z1.cell
 obtain⟨w1,hw1⟩:∃ v,((w.alloc (.cells K.C 91)).alloc (.cells (ctC cc CA LC.length ck) 43)).alloc (.cells (zQ7) 106)=v:=⟨_,rfl⟩
 rw [hw1]at z0 z1 z2 G0 hmk hmc
 have HW1:=hQ9 hw1
 clear hw1
 go_enter Tryz.func45,Tryz.ntmps45
 go_wp2_with(first
  | (with_reducible refine wpList_load_mid rfl 91 (.tmp 3) rfl w.heap.size 0 rfl K.C.toList _ (by rw [HW1.out];exact hmk) huk rfl SIK.out ?_;rw [HW1.out];simp only [zT9])
  | (with_reducible refine wpList_load_mid rfl 43 (.tmp 4) rfl (w.heap.size+1) 0 rfl (ctC cc CA LC.length ck).toList _ hmc huc rfl SIC.out ?_;simp only [zT9]))
 refine(CV.out w1 (HS.out.grew G0) (HKA.out.gr G0) (HLC.out.gr G0)).mono ?_
 rintro e w2 ⟨rfl,gg⟩
 have z0:=z0.grew gg
 have z1:=z1.grew gg
 have z2:=z2.grew gg
 clear hmk hmc
 have hmc:=z1.cell
 have G2:=zb G0 gg
 clear gg CV G0
 go_wp2_with(with_reducible refine wpList_load_mid rfl 43 (.tmp 4) rfl (w.heap.size+1) 0 rfl (ctC cc CA LC.length ck).toList _ hmc huc rfl SIC.out ?_;simp only [zT9])
 refine(CD.out w2 (HS.out.grew G2) (HLC.out.gr G2)).mono ?_
 rintro e w3 ⟨rfl,gg⟩
 obtain⟨w4,hw4,g4,hd4⟩:=qd w3 72 (.int .u64 (ctD cc LC:Nat))
 have HW4:=hQ9 hw4
 have g24:=zb gg g4
 have HZK:=hQ9 (z0.grew g24)
 have HZ1:=hQ9 (z1.grew g24)
 have HZ2:=hQ9 (z2.grew g24)
 have G4:=zb G2 g24
 have hmf:=ka HZK.out
 clear hmc z0 z1 z2 gg g4 G2 CD hw4
 go_wp2_with(first
  | (rw [HW4.out];with_reducible refine wpList_load_mid rfl 89 (.tmp 22) rfl w.heap.size 0 rfl [.int .i64 K.f] _ hmf huf rfl HCF.out ?_))
 clear hmf
 have CQ:=ze0 hK A cap L hl (ctD cc LC) w3.heap.size w.heap.size w4 (HS.out.grew G4) (HKA.out.gr G4) (HLA.out.gr G4) hd4 HZK.out hen
 have hEl:(chosenA K (ctD cc LC) L).length≤100000:=by
  unfold chosenA
  rw [List.length_take,yE]
  exact Nat.le_trans (Nat.min_le_right _ _) (Nat.le_trans (xl _ _) (Nat.le_trans (List.length_filter_le _ _) hl))
 obtain⟨E,hE⟩:∃ E,chosenA K (ctD cc LC) L=E:=⟨_,rfl⟩
 have HEE:=hQ9 hE
 rw [hE]at CQ hEl
 refine CQ.mono ?_
 rintro e w5 ⟨B,rfl,hSpE,g5⟩
 have HSPE:=hQ9 hSpE
 have HEL:=hQ9 hEl
 have G5:=zb G4 g5
 have HSPC:=hQ9 (HLC.out.gr G5)
 have HZ2':=hQ9 (HZ2.out.grew g5)
 have HMC:=hQ9 (fun y (g:Grew w5 y)=>(HZ1.out.grew (zb g5 g)).cell)
 have hsz5:w.heap.size+1+1<w5.heap.size:=HZ2'.out.lt
 clear hd4 g5 CQ hSpE hEl hE
 have hm:=HMC.out w5 (za _)
 go_wp2_with(with_reducible refine wpList_load_mid rfl 43 (.tmp 4) rfl (w.heap.size+1) 0 rfl (ctC cc CA LC.length ck).toList _ hm huc rfl SIC.out ?_;simp only [zT9])
 refine(znr cc CA ck LC (by have:=HC40.out;omega) w5 HSPC.out).mono ?_
 rintro e y1 ⟨B2,k2,M,rfl,hmv,hsp1,hb2,hm2,g6⟩
 go_wp2_with fail
 refine(ze1 B E.length E HEL.out y1 (HSPE.out.gr g6)).mono ?_
 rintro e y ⟨D2,j2,N,rfl,hnv,hap,hk1,hk2,hd2',hn2',g7⟩
 have hg:=zb g6 g7
 have hsp:=hsp1.gr g7
 have hd2:∀ ad,D2=some ad→w5.heap.size≤ad.block:=fun ad h=>Nat.le_trans g6.size (hd2' ad h)
 have hn2:∀ S∈N,∀ ad,S.A=some ad→S.l=[]∨w5.heap.size≤ad.block:=fun S hS ad h=>(hn2' S hS ad h).imp id (fun h1=>Nat.le_trans g6.size h1)
 clear hd2' hn2' hsp1 g6 g7 hm
 have z3:=HZ2'.out.grew hg
 have GG:=zb G5 hg
 have K3:=zn (sqC cc B2 LC.length k2 D2 E.length j2).toList (w.heap.size+1+1) 0 y
 have hsp3:=hsp.kpx K3 (fun ad h e=>by have:=hb2 ad h;omega) (fun T hT ad h=>(hm2 T hT ad h).imp id (fun h1 e=>by omega))
 have hap3:=hap.kpx K3 (fun ad h e=>by have:=hd2 ad h;omega) (fun T hT ad h=>(hn2 T hT ad h).imp id (fun h1 e=>by omega))
 have HTH:Hid (y.there (w.heap.size+1+1) 0 (sqC cc B2 LC.length k2 D2 E.length j2).size):=hQ9 (z3.thereN 7 rfl)
 have HSI:Hid (zI9 106=some (sqC cc B2 LC.length k2 D2 E.length j2).size):=hQ9 yU
 have HON:=hQ9 (y7 cc B2 LC.length k2 D2 E.length j2)
 have z4:=Ag.set (vs:=(sqC cc B2 LC.length k2 D2 E.length j2).toList) z3 rfl
 have G6:=zh (o:=0) (b:=w.heap.size+1+1) (sqC cc B2 LC.length k2 D2 E.length j2).toList GG (by omega)
 have HL1:Hid (∀ ad,B2=some ad→w.heap.size≤ad.block):=hQ9 (fun ad h=>by have:=hb2 ad h;omega)
 have HL2:Hid (∀ S∈M,∀ ad,S.A=some ad→S.l=[]∨w.heap.size≤ad.block):=hQ9 (fun S hS ad h=>(hm2 S hS ad h).imp id (fun h1=>by omega))
 have HL3:Hid (∀ ad,D2=some ad→w.heap.size≤ad.block):=hQ9 (fun ad h=>by have:=hd2 ad h;omega)
 have HL4:Hid (∀ S∈N,∀ ad,S.A=some ad→S.l=[]∨w.heap.size≤ad.block):=hQ9 (fun S hS ad h=>(hn2 S hS ad h).imp id (fun h1=>by omega))
 clear z3 hsp hb2 hm2 hap hd2 hn2 K3 hg GG HMC HSPE HSPC
 have HBU:=hQ9 (zns cc B2 LC.length k2 D2 E.length j2)
 go_wp2_with(first | (with_reducible refine zC rfl 106 #[(0,.tmp 34),(1,.tmp 36)] rfl (sqC cc B2 LC.length k2 D2 E.length j2) ?_ ?_;· simpa [Act.eval,Act.put]using HBU.out) | (with_reducible refine wpList_store_mid rfl 106 (.tmp 6) (.tmp 37) rfl (w.heap.size+1+1) 0 (sqC cc B2 LC.length k2 D2 E.length j2) rfl rfl HTH.out HSI.out HON.out ?_))
 exact bodyPost_ret (zw Tryz.results45 _ _ (w.heap.size+1+1) _ _ _ rfl rfl z4 hut rfl yU) rfl ⟨⟨B2,k2,M,D2,j2,N,by rw [HEE.out];rfl,hmv,hsp3,by rw [HEE.out];exact hnv,hap3,HL1.out,HL2.out,HL3.out,HL4.out⟩,G6⟩
theorem sq_ct {w:World} {b:Nat} {cc:Cm} {B:Option Addr} {n k:Nat} {D:Option Addr} {m j:Nat} (h:Ag w b (sqC cc B n k D m j).toList):w.rangeAt b 0 (ctC cc B n k).toList:=fun j v hj=>by
 refine h.cell j v ?_
 have hl:=(List.getElem?_eq_some_iff.1 hj).1
 rw [show(sqC cc B n k D m _).toList=(ctC cc B n k).toList++[.slice D m _] from rfl,List.getElem?_append_left hl]
 exact hj
theorem ze3 (cc:Cm) (hci:cc.in) {K:KP} (hK:K.ok) (CA:Option Addr) (ck:Nat) (LC:List SP) (hlc:LC.length≤40) (hmv0:mvE K cc LC=0) (A:Option Addr) (cap:Nat) (L:List AP) (hl:L.length≤100000) (w:World) (hS:Std w) (hk:K.at w) (hLC:Sps w CA LC) (hL:Aps w A L) :
 Calls Tryz.prog 50 #[.agg K.C,.agg (sqC cc CA LC.length ck A L.length cap)] w fun e w'=>e=.returned (.int .i64 (cqA K (ctD cc LC) L))∧Grew w w':=by
 have huk:=Tryz.underlying91
 have huc:=Tryz.underlying43
 have huf:=Tryz.underlying89
 have HCF:Hid (zI9 89=some [Value.int .i64 K.f].length):=hQ9 (by kernel_rfl)
 have SIK:Hid (zI9 91=some K.C.toList.length):=hQ9 (show _=some 3 by kernel_rfl)
 have SIC:Hid (zI9 43=some (ctC cc CA LC.length ck).toList.length):=hQ9 yh
 have z0:=(Ag.new w 91 K.C).grew (ze (za _) (.cells (sqC cc CA LC.length ck A L.length cap) 106))
 have z1:=Ag.new (w.alloc (.cells K.C 91)) 106 (sqC cc CA LC.length ck A L.length cap)
 rw [zl]at z1
 have G0:=ze (ze (za w) (.cells K.C 91)) (.cells (sqC cc CA LC.length ck A L.length cap) 106)
 have CV:=hQ9 (fun W h1 h2 h3=>xH cc hK CA ck LC (by omega) W h1 h2 h3)
 rw [hmv0]at CV
 have CD:=hQ9 (fun W h1 h2=>xS cc hci CA ck LC hlc W h1 h2)
 have HS:=hQ9 hS
 have HKA:=hQ9 hk
 have HLA:=hQ9 hL
 have HLC:=hQ9 hLC
 clear hci hS hk hL hLC hmv0 hlc
 have hmk:=z0.cell
 have hmc:=sq_ct z1
 obtain⟨w1,hw1⟩:∃ v,(w.alloc (.cells K.C 91)).alloc (.cells (sqC cc CA LC.length ck A L.length cap) 106)=v:=⟨_,rfl⟩
 rw [hw1]at z0 z1 G0 hmk hmc
 have HW1:=hQ9 hw1
 clear hw1
 go_enter Tryz.func50,Tryz.ntmps50
 go_wp2_with(first
  | (with_reducible refine wpList_load_mid rfl 91 (.tmp 2) rfl w.heap.size 0 rfl K.C.toList _ (by rw [HW1.out];exact hmk) huk rfl SIK.out ?_;rw [HW1.out];simp only [zT9])
  | (with_reducible refine wpList_load_mid rfl 43 (.tmp 8) rfl (w.heap.size+1) 0 rfl (ctC cc CA LC.length ck).toList _ hmc huc rfl SIC.out ?_;simp only [zT9]))
 refine(CV.out w1 (HS.out.grew G0) (HKA.out.gr G0) (HLC.out.gr G0)).mono ?_
 rintro e w2 ⟨rfl,gg⟩
 have z0:=z0.grew gg
 have z1:=z1.grew gg
 clear hmk hmc
 have hmc:=sq_ct z1
 have G2:=zb G0 gg
 clear gg CV G0
 go_wp2_with(with_reducible refine wpList_load_mid rfl 43 (.tmp 14) rfl (w.heap.size+1) 0 rfl (ctC cc CA LC.length ck).toList _ hmc huc rfl SIC.out ?_;simp only [zT9])
 refine(CD.out w2 (HS.out.grew G2) (HLC.out.gr G2)).mono ?_
 rintro e w3 ⟨rfl,gg⟩
 obtain⟨w4,hw4,g4,hd4⟩:=qd w3 72 (.int .u64 (ctD cc LC:Nat))
 have HW4:=hQ9 hw4
 have g24:=zb gg g4
 have HZK:=hQ9 (z0.grew g24)
 have z14:=z1.grew g24
 have G4:=zb G2 g24
 have hmf:=ka HZK.out
 have HC6:w4.cell? ⟨w.heap.size+1,6,none⟩=some (.slice A L.length cap):=by simpa using z14.cell 6 _ rfl
 have CQ:=hQ9 (chq_ap hK A cap L hl (ctD cc LC) w3.heap.size w.heap.size w4 (HS.out.grew G4) (HKA.out.gr G4) (HLA.out.gr G4) hd4 HZK.out)
 clear hmc z0 z1 gg g4 G2 CD hw4 z14 g24 hd4
 go_wp2_with(first
  | (rw [HW4.out];with_reducible refine wpList_load_mid rfl 89 (.tmp 17) rfl w.heap.size 0 rfl [.int .i64 K.f] _ hmf huf rfl HCF.out ?_))
 refine(CQ.out).mono ?_
 rintro e w5 ⟨rfl,g5⟩
 go_wp2_with fail
 go_ret
 exact⟨rfl,zb G4 g5⟩
theorem zpl (a b:Cm) (W:World):(Op.equalIn 10000 33 a.v b.v).run Tryz.prog W=.ok (decide (a=b)) W:=by
 obtain⟨a0,a1,a2,a3,a4⟩:=a
 obtain⟨b0,b1,b2,b3,b4⟩:=b
 unfold Cm.v
 rw [run_equalIn_struct W 9999 33 _ _ (by kernel_rfl) (by kernel_rfl)]
 simp only [Program.fieldsOf,Tryz.underlying33]
 rw [jd (k:=.i64) (a:=a0) (b:=b0) (by simp) (by kernel_rfl) (by kernel_rfl) (by kernel_rfl),jd (k:=.i64) (a:=a1) (b:=b1) (by simp) (by kernel_rfl) (by kernel_rfl) (by kernel_rfl),jd (k:=.i64) (a:=a2) (b:=b2) (by simp) (by kernel_rfl) (by kernel_rfl) (by kernel_rfl),jd (k:=.i64) (a:=a3) (b:=b3) (by simp) (by kernel_rfl) (by kernel_rfl) (by kernel_rfl),jd (k:=.i64) (a:=a4) (b:=b4) (by simp) (by kernel_rfl) (by kernel_rfl) (by kernel_rfl)]
 simp only [Op.eqFields,Sem.run_pure,Cm.mk.injEq]
 by_cases h0:a0=b0<;>by_cases h1:a1=b1<;>by_cases h2:a2=b2<;>by_cases h3:a3=b3<;>by_cases h4:a4=b4<;>simp [h0,h1,h2,h3,h4]
theorem zi2 (S:SP) (hS:S.ok) (A:Option Addr) (c:Nat) (w:World) (ha:S.at w) (hb:(S.mv A c).at w) :
 Calls Tryz.prog 140 #[.agg S.C,.agg (S.mv A c).C] w fun e w'=>e=.returned (.bool true)∧Grew w w' :=
 ziu S.cm S.who S.at_ S.sw S.lf S.s S.A A S.c c S.l (by have:=hS.len;omega) w ha hb
theorem kO:(Tryz.prog.info? 233).map (·.size)=some 24:=by kernel_rfl
theorem yZ:(Tryz.prog.info? 36).map (·.size)=some 6:=by kernel_rfl
theorem zpm:(Tryz.prog.info? 233).map (fun i=>(i.zero,i.size,i.bytes))=some (some (.agg (#[.int .u64 0,.int .i64 0,.int .i64 0,.int .i64 0,.int .i64 0,.int .u64 0,.int .u64 0,.int .u64 0,.int .u64 0,.int .u64 0,.int .u64 0,.int .u64 0,.int .u64 0,.int .u64 0,.int .u64 0,.int .u64 0,.int .u64 0,.int .u64 0,.int .u64 0,.int .u64 0,.int .u64 0,.int .u64 0,.int .u64 0,.slice none 0 0]:Array Value)),24,208):=by kernel_rfl
theorem zi3 {S:SP} (hS:S.ok) (w:World) (ha:S.at w):Calls Tryz.prog 223 #[.agg S.C] w fun e w'=>e=.returned (.string S.tb)∧Grew w w' :=
 zix S.cm S.who S.at_ S.sw S.lf S.s S.A S.c S.l hS.cm hS.who hS.at_ hS.sw hS.lf hS.len hS.s hS.l w ha
theorem zpn (S:SP) (hS:S.ok) (w:World) (ha:S.at w) :
 Calls Tryz.prog 197 #[.agg S.C] w fun e w'=>∃ A2 c2,e=.returned (.agg (S.mv A2 c2).C)∧(S.mv A2 c2).at w'∧(∀ ad,A2=some ad→w.heap.size≤ad.block)∧Grew w w' :=
 (zpc S.cm S.who S.at_ S.sw S.lf S.s S.A S.c S.l (by have:=hS.len;omega) w ha).mono fun e w' ⟨A2,c2,h1,h2,h3,h4⟩=>⟨A2,c2,h1,h2,h4,h3⟩
theorem znt (A:Option Addr) (c:Nat) (L:List SP) (hl:L.length≤100000) (w:World) (hL:Sps w A L) :
 Calls Tryz.prog 142 #[.slice A L.length c] w fun e w'=>∃ B c' M,e=.returned (.slice B L.length c')∧MvL L M∧Sps w' B M∧L.length≤c'∧c'≤maxLen∧(∀ ad,B=some ad→w.heap.size≤ad.block)∧(∀ S∈M,∀ ad,S.A=some ad→S.l=[]∨w.heap.size≤ad.block)∧Grew w w':=by
 obtain⟨i0,hi,hz0,hz1,hz2⟩:=info_parts zpm
 have hut:=Tryz.underlying157
 have HL:=hQ9 hL
 have hr:=hL.rd
 clear hL
 go_enter Tryz.func142,Tryz.ntmps142
 go_wp2_with fail
 go_loopw [3,4] (fun rv iv wr=>∃(i:Nat) (M:List SP),i≤L.length∧iv=.int .i64 i∧MvL (L.take i) M∧(∀ S∈M,S.ok)∧(∀ S∈M,S.at wr)∧(∀ S∈M,∀ ad,S.A=some ad→∀ g,rv.ownBlock=some g→S.l=[]∨ad.block≠g)∧(∀ S∈M,∀ ad,S.A=some ad→S.l=[]∨w.heap.size≤ad.block)∧wr.ownsRow w.heap.size 233 24 rv i (spL M).flatten∧Grew w wr) (fun _ i _=>L.length-(Go.RowKit.intOf i).toNat)
 case atStart=>exact⟨0,[],Nat.zero_le _,rfl,by simpa using MvL.nil,by simp,by simp,by simp,by simp,by simpa [spL]using World.ownsRow_nil _ _ _ _,Below.refl _ _⟩
 case round =>
  obtain⟨i,M,hil,rfl,hmv,hok,hat,hne,hlow,hrow,hg⟩:=hrel
  by_cases hlt:i<L.length
  ·obtain⟨q,hA,hq,hm⟩:=RdC.at24 hr hg i hlt
   subst hA
   have hts:L.take (i+1)=L.take i++[L[i]]:=by rw [List.take_succ_eq_append_getElem hlt]
   have HTS:=hQ9 hts
   have hSok:=HL.out.ok L[i] (List.getElem_mem hlt)
   have hSat:=(HL.out.at_ L[i] (List.getElem_mem hlt)).gr hg
   clear hts
   have hi0:(0:Int)≤(i:Int):=by omega
   have hi1:(i:Int)<(L.length:Int):=by omega
   have e4:IntKind.i64.wrap ((i:Int)+1)=(i:Int)+1:=IntWalk.i64_in _ (by omega)
   generalize L[i]=S at *
   have SIS:Hid (zI9 157=some S.C.toList.length):=hQ9 zK
   have CCP:=hQ9 (zpn S hSok wr hSat)
   have HOK:=hQ9 hok
   have HNE:=hQ9 hne
   have HLW:=hQ9 hlow
   have hwz:=hg.size
   have HWZ:=hQ9 hwz
   have HMV:=hQ9 hmv
   have HAT:=hQ9 (fun S hS=>hat S hS)
   have HSO:=hQ9 hSok
   clear hok hne hlow hmv hat hSok hSat hwz
   go_wp2_with(with_reducible refine wpList_load_mid rfl 157 (.tmp 14) rfl q (i*24) rfl S.C.toList _ hm hut rfl SIS.out ?_;simp only [zT9])
   refine(CCP.out).mono ?_
   rintro e w3 ⟨A2,c2,rfl,hat2,hfr2,gg⟩
   have G3:=zb hg gg
   have hrow3:=zo (S:=fun _=>False) hrow (zF gg) (fun g _ h=>h)
   have hsz3:=G3.size
   have hsz:(S.mv A2 c2).C.size=24:=rfl
   have HAT3:=hQ9 (fun T hT=>(HAT.out T hT).gr gg)
   have HOB:=hQ9 (zN hrow)
   have hgz:=gg.size
   have HFR:Hid (∀ ad,A2=some ad→S.l=[]∨wr.heap.size≤ad.block):=hQ9 (fun ad h=>.inr (hfr2 ad h))
   clear hrow hm gg hg CCP HAT
   go_wp2_with(first
    | (at_builtin;rw [xN];refine zO _ rfl (.tmp 11) (.tmp 17) 34 rfl w.heap.size 233 i0 (.agg (#[.int .u64 0,.int .i64 0,.int .i64 0,.int .i64 0,.int .i64 0,.int .u64 0,.int .u64 0,.int .u64 0,.int .u64 0,.int .u64 0,.int .u64 0,.int .u64 0,.int .u64 0,.int .u64 0,.int .u64 0,.int .u64 0,.int .u64 0,.int .u64 0,.int .u64 0,.int .u64 0,.int .u64 0,.int .u64 0,.int .u64 0,.slice none 0 0]:Array Value)) 24 208 Tryz.underlying34 hi hz0 hz1 hz2 rfl (by decide) _ _ _ rfl (hrow3.alloc _) ⟨w3.heap.size,0,none⟩ 1 1 (S.mv A2 c2).C.toList rfl rfl (fun j u hj=>yg w3 (S.mv A2 c2).C 233 j u hj) (S.mv A2 c2).one' (by unfold maxLen;omega) (by omega) (by simp;omega) ?_;intro v' w5 hown5 hgrow5 hob5))
   have ga:=ze (za w3) (.cells (S.mv A2 c2).C 233)
   go_roundw
   case rel =>
    refine⟨i+1,M++[S.mv A2 c2],by omega,by go_num,by rw [HTS.out];exact HMV.out.snoc S A2 c2,?_,?_,?_,?_,by rw [xo];exact hown5,(ze G3 _).grown hgrow5 (by simp;omega) (zu hrow3)⟩
    ·intro T hT
     rcases List.mem_append.1 hT with h | h
     ·exact HOK.out T h
     ·obtain rfl:T=S.mv A2 c2:=by simpa using h
      exact SP.mv_ok HSO.out _ _
    ·intro T hT
     rcases List.mem_append.1 hT with h | h
     ·exact yQ ((HAT3.out T h).gr ga) hgrow5 (fun ad e g hg=>HNE.out T h ad e g hg)
     ·obtain rfl:T=S.mv A2 c2:=by simpa using h
      exact yQ (hat2.gr ga) hgrow5 (fun ad e g hg=>by
       rcases HFR.out ad e with h1 | h1
       ·exact .inl h1
       ·have:=(HOB.out g hg).2
        exact .inr (by omega))
    ·intro T hT ad e g hg
     have hlt9:T.l=[]∨ad.block<(w3.alloc (.cells (S.mv A2 c2).C 233)).heap.size:=by
      rcases List.mem_append.1 hT with h | h
      ·exact at_lt ((HAT3.out T h).gr ga) ad e
      ·obtain rfl:T=S.mv A2 c2:=by simpa using h
       exact at_lt (hat2.gr ga) ad e
     rcases hob5 with h3 | h3
     ·rw [h3]at hg
      rcases List.mem_append.1 hT with h | h
      ·exact HNE.out T h ad e g hg
      ·obtain rfl:T=S.mv A2 c2:=by simpa using h
       rcases HFR.out ad e with h1 | h1
       ·exact .inl h1
       ·have:=(HOB.out g hg).2
        exact .inr (by omega)
     ·rw [h3]at hg;injection hg with hg
      rcases hlt9 with h1 | h1
      ·exact .inl h1
      ·exact .inr (by omega)
    ·intro T hT ad e
     rcases List.mem_append.1 hT with h | h
     ·exact HLW.out T h ad e
     ·obtain rfl:T=S.mv A2 c2:=by simpa using h
      rcases HFR.out ad e with h1 | h1
      ·exact .inl h1
      ·exact .inr (Nat.le_trans HWZ.out h1)
   case measure=>simp [Go.RowKit.intOf];omega
  ·obtain rfl:i=L.length:=by omega
   rw [List.take_length]at hmv
   obtain⟨B,c',rfl,hB,hc1,hc2,hbB⟩:=xO hrow hmv.len
   go_wp2_with fail
   go_ret
   exact⟨B,c',M,rfl,hmv,⟨hB,hok,hat⟩,hc1,hc2,fun ad e=>(hbB ad e).1,hlow,hg⟩
structure OfV (L:List SP) (b:Nat) (z:World) (v:Value) (f:Option Addr→Nat→Value):Prop where
 out:∃ B k M,v=f B k∧MvL L M∧Sps z B M∧(∀ ad,B=some ad→b≤ad.block)∧(∀ S∈M,∀ ad,S.A=some ad→S.l=[]∨b≤ad.block)
theorem OfV.gr {L:List SP} {b:Nat} {z z':World} {v:Value} {f:Option Addr→Nat→Value} (h:OfV L b z v f) (g:Grew z z'):OfV L b z' v f:=by
 obtain⟨B,k,M,h1,h2,h3,h4,h5⟩:=h.out
 exact⟨B,k,M,h1,h2,h3.gr g,h4,h5⟩
theorem zi4:(Tryz.prog.info? 233).map (·.size)=some 24:=by kernel_rfl
theorem zpo (S:SP) (hS:S.ok) (w:World) (ha:S.at w) :
 Calls Tryz.prog 137 #[.agg S.C] w fun e w'=>∃ A2 c2,e=.returned (.agg (S.mv A2 c2).C)∧(S.mv A2 c2).at w'∧(∀ ad,A2=some ad→w.heap.size≤ad.block)∧Grew w w' :=
 (zpf S.cm S.who S.at_ S.sw S.lf S.s S.A S.c S.l (by have:=hS.len;omega) w ha).mono fun e w' ⟨A2,c2,h1,h2,h3,h4⟩=>⟨A2,c2,h1,h2,h4,h3⟩
theorem cto_ok (c:Cm) (w:World):Calls Tryz.prog 64 #[c.v] w fun e w'=>e=.returned c.v∧Grew w w':=by
 obtain⟨a,b,c,d,e⟩:=c
 have z0:=Ag.new (w.alloc (.cells #[.int .i64 a,.int .i64 b,.int .i64 c,.int .i64 d,.int .i64 e] 33)) 40 #[.int .i64 0,.int .i64 0,.int .i64 0,.int .i64 0,.int .i64 0]
 have g0:=ze (ze (za w) (.cells #[.int .i64 a,.int .i64 b,.int .i64 c,.int .i64 d,.int .i64 e] 33)) (.cells #[.int .i64 0,.int .i64 0,.int .i64 0,.int .i64 0,.int .i64 0] 40)
 have hi5:(Tryz.prog.info? 40).map (·.size)=some 5:=by kernel_rfl
 rw [zl]at z0
 unfold Cm.v
 go_enter Tryz.func64,Tryz.ntmps64
 go_wp2_with(refine wpList_store_mid rfl 40 (.tmp 2) (.tmp 13) rfl (w.heap.size+1) 0 #[.int .i64 a,.int .i64 b,.int .i64 c,.int .i64 d,.int .i64 e] rfl rfl (z0.thereN 5 rfl) hi5 (by simp [Value.oneCell']) ?_;have z1:=Ag.set (vs:=[.int .i64 a,.int .i64 b,.int .i64 c,.int .i64 d,.int .i64 e]) z0 rfl;have g1:=zh (o:=0) (b:=w.heap.size+1) [.int .i64 a,.int .i64 b,.int .i64 c,.int .i64 d,.int .i64 e] g0 (by omega))
 have c0:=z1.cell 0 _ rfl
 have c1:=z1.cell 1 _ rfl
 have c2:=z1.cell 2 _ rfl
 have c3:=z1.cell 3 _ rfl
 have c4:=z1.cell 4 _ rfl
 simp only [Nat.zero_add]at c0 c1 c2 c3 c4
 exact bodyPost_ret (v:=Cm.v ⟨a,b,c,d,e⟩) (by simp [results,Tryz.f64,go_sem,c0,c1,c2,c3,c4];try rfl) rfl ⟨rfl,g1⟩
def cm12 (n:Int):Cm:=⟨1,n,2,3,4⟩
theorem ok12 (n:Int) (h:0≤n∧n≤1048576):okC (cm12 n):=by unfold okC cm12;simp only;omega
theorem zlb:dgC (cm12 0)=11072973056134508768:=by unfold dgC;rw [sumL_C];decide +kernel
noncomputable def kp12 (RA:Option Addr) (Rc:Nat):KP:=⟨1,rtL 3 2 4,RA,Rc,2⟩
theorem zhe (RA:Option Addr) (Rc:Nat):(kp12 RA Rc).ok:=⟨⟨by show(1:Int)≤1;omega,by show(1:Int)≤3;omega⟩,by show(rtL 3 2 4).length≤1000;rw [xG];omega,rt_lt _ _ _ (by omega)⟩
section
variable (RA : Option Addr) (Rc : Nat) (A0 A1 A2 A3 : Option Addr) (c0 c1 c2 c3 : Nat)
end
noncomputable def sp14 (i:Nat) (A:Option Addr) (c:Nat):SP:=stpK 3 2 i 0 11072973056134508768 (10+(i:Int)) A c
theorem va14 (RA:Option Addr) (Rc:Nat) (i:Nat) (hi:i<4) (A:Option Addr) (c:Nat):vaS (kp12 RA Rc) (sp14 i A c)=0 :=
 zkt 3 2 (by omega) i 0 hi (by decide) 11072973056134508768 (10+(i:Int)) (decide_eq_true (by omega))
section
variable (RA : Option Addr) (Rc : Nat) (A0 A1 A2 A3 : Option Addr) (c0 c1 c2 c3 : Nat)
theorem vd14 (i:Nat) (hi:i<4) (A:Option Addr) (c:Nat):vdE (kp12 RA Rc) (dgC (cm12 0)) (sp14 i A c)=0:=by
 unfold vdE
 rw [zlb,va14 RA Rc i hi A c]
 simp [sp14,stpK]
theorem mv14:mvE (kp12 RA Rc) (cm12 0) [sp14 0 A0 c0,sp14 1 A1 c1,sp14 2 A2 c2]=0:=by
 unfold mvE cqE
 rw [if_pos (ok12 0 (by omega))]
 refine(if_pos (by rfl)).trans ?_
 rw [xQ (by rfl) (vd14 RA Rc 0 (by omega) A0 c0),xQ (by show decide (((1:Nat):Int)≤((0:Nat):Int))=false;decide) (vd14 RA Rc 1 (by omega) A1 c1),xQ (by show decide (((2:Nat):Int)≤((1:Nat):Int))=false;decide) (vd14 RA Rc 2 (by omega) A2 c2)]
 rfl
end
noncomputable def ap14 (d i:Nat) (A:Option Addr) (c:Nat):AP:=⟨d,i,i,1,signF (secN (sdI 3 i) ((1:Nat):Int)) (akD d (i:Int)),A,c,pathN (ksL 3 2 i) 1⟩
theorem zhf (d i:Nat) (hd:d<18446744073709551616) (hi:i<4) (A:Option Addr) (c:Nat):(ap14 d i A c).ok :=
 ⟨hd,⟨by show _≤(i:Int);omega,by show(i:Int)≤_;omega⟩,⟨by show _≤(i:Int);omega,by show(i:Int)≤_;omega⟩,⟨by show _≤(1:Int);decide,by show(1:Int)≤_;decide⟩,fun k _=>zd0 _ _ _ (qt _ _ _),by
  show(pathN (ksL 3 2 i) 1).length≤1000
  unfold ksL
  rw [kE _ 2 (by omega) 1 (by decide)];omega,(show ∀ x∈pathN (ksL 3 2 i) 1,x<18446744073709551616 from zeb _ _ (xM _ _))⟩
theorem kv_yes (seed:Int) (h:Nat) (hh:h≤8) (i m:Nat) (hi:i<4) (hm:m<2^h) (d:Nat) :
 kvE 1 (rtL seed h 4) (h:Int) d (i:Int) (i:Int) (m:Int) (signF (secN (sdI seed i) (m:Int)) (akD d (i:Int))) (pathN (ksL seed h i) m)=0:=by
 unfold kvE
 rw [if_neg (by omega),if_neg (by omega),Int.toNat_natCast]
 unfold ckE
 rw [if_neg (by rw [xG];omega),if_pos rfl,zks _ _ _ _ hi]
 have:=zg3 (sdI seed i) h hh m (akD d (i:Int):Nat) (by omega) hm
 rw [Int.toNat_natCast]at this
 rw [if_pos]
 exact this
theorem kv14 (RA:Option Addr) (Rc:Nat) (d i:Nat) (hi:i<4) (A:Option Addr) (c:Nat):kvS (kp12 RA Rc) (ap14 d i A c)=0 :=
 kv_yes 3 2 (by omega) i 1 hi (by decide) d
theorem zpp (RA:Option Addr) (Rc:Nat) (d:Nat) (A:Option Addr) (c:Nat) (s:Nat→Nat) (l:List Nat):kvS (kp12 RA Rc) ⟨d,0,3,1,s,A,c,l⟩=7:=by
 show kvE 1 (rtL 3 2 4) 2 d 0 3 1 s l=7
 unfold kvE
 rw [if_neg (by omega),if_neg (by omega)]
 unfold ckE
 rw [if_neg (by rw [xG];show ¬4≤(0:Int).toNat;decide),if_neg (by decide)]
theorem gf14 (RA:Option Addr) (Rc:Nat) (d i:Nat) (hi:i<4) (A:Option Addr) (c:Nat):gfB (kp12 RA Rc) d (ap14 d i A c)=true:=by
 unfold gfB
 rw [kv14 RA Rc d i hi A c]
 simp [ap14]
theorem zhg (d:Nat) (A1 A2 A3:Option Addr) (c1 c2 c3:Nat):eachL AP.who [ap14 d 3 A3 c3,ap14 d 2 A2 c2,ap14 d 1 A1 c1]=[ap14 d 1 A1 c1,ap14 d 2 A2 c2,ap14 d 3 A3 c3]:=by
 rw [xi AP.who _ 4 (fun x hx=>by
  simp only [List.mem_cons,List.not_mem_nil,or_false]at hx
  rcases hx with rfl | rfl | rfl<;>exact⟨by show(0:Int)≤((_:Nat):Int);omega,by show((_:Nat):Int)<4;omega⟩)]
 simp [upTo,List.range_succ,ap14,List.find?]
theorem znu (d:Nat) (A2 A3:Option Addr) (c2 c3:Nat):eachL AP.who [ap14 d 3 A3 c3,ap14 d 2 A2 c2]=[ap14 d 2 A2 c2,ap14 d 3 A3 c3]:=by
 rw [xi AP.who _ 4 (fun x hx=>by
  simp only [List.mem_cons,List.not_mem_nil,or_false]at hx
  rcases hx with rfl | rfl<;>exact⟨by show(0:Int)≤((_:Nat):Int);omega,by show((_:Nat):Int)<4;omega⟩)]
 simp [upTo,List.range_succ,ap14,List.find?]
section
variable (RA : Option Addr) (Rc : Nat) (d : Nat) (A1 A2 A3 : Option Addr) (c1 c2 c3 : Nat)
theorem zlc:chosenA (kp12 RA Rc) d [ap14 d 3 A3 c3,ap14 d 2 A2 c2,ap14 d 1 A1 c1]=[ap14 d 1 A1 c1,ap14 d 2 A2 c2,ap14 d 3 A3 c3]:=by
 unfold chosenA
 rw [List.filter_eq_self.2 (fun x hx=>by
  simp only [List.mem_cons,List.not_mem_nil,or_false]at hx
  rcases hx with rfl | rfl | rfl<;>exact gf14 _ _ _ _ (by omega) _ _),zhg]
 rfl
theorem zld:enoughA (kp12 RA Rc) d [ap14 d 3 A3 c3,ap14 d 2 A2 c2,ap14 d 1 A1 c1]=true:=by
 unfold enoughA
 rw [List.filter_eq_self.2 (fun x hx=>by
  simp only [List.mem_cons,List.not_mem_nil,or_false]at hx
  rcases hx with rfl | rfl | rfl<;>exact gf14 _ _ _ _ (by omega) _ _),zhg]
 rfl
theorem zi5:enoughA (kp12 RA Rc) d [ap14 d 3 A3 c3,ap14 d 2 A2 c2]=false:=by
 unfold enoughA
 rw [List.filter_eq_self.2 (fun x hx=>by
  simp only [List.mem_cons,List.not_mem_nil,or_false]at hx
  rcases hx with rfl | rfl<;>exact gf14 _ _ _ _ (by omega) _ _),znu]
 rfl
theorem avd14 (i:Nat) (hi:i<4) (A:Option Addr) (c:Nat):vdA (kp12 RA Rc) d (ap14 d i A c)=0:=by
 unfold vdA
 rw [kv14 RA Rc d i hi A c]
 simp [ap14]
theorem cq14:cqA (kp12 RA Rc) d [ap14 d 1 A1 c1,ap14 d 2 A2 c2,ap14 d 3 A3 c3]=0:=by
 unfold cqA
 refine(if_pos (by rfl)).trans ?_
 rw [yY (by rfl) (avd14 RA Rc d 1 (by omega) A1 c1),yY (by show decide (((2:Nat):Int)≤((1:Nat):Int))=false;decide) (avd14 RA Rc d 2 (by omega) A2 c2),yY (by show decide (((3:Nat):Int)≤((2:Nat):Int))=false;decide) (avd14 RA Rc d 3 (by omega) A3 c3)]
 rfl
end
theorem zpq (i:Nat) (hi:i<4) (p:Nat) (cc:Cm) (hci:cc.in) (CA:Option Addr) (ck:Nat) (L:List SP) (hL40:L.length≤40) (w:World) (hS:Std w) (hSp:Sps w CA L) (hk:KyAt w (p+1) p (i:Int) (sdI 3 i) (ksL 3 2 i) 1 (2^2)) :
 Calls Tryz.prog 56 #[.pointer (some ⟨p+1,0,none⟩),.int .i64 (i:Int),.agg (ctC cc CA L.length ck)] w fun e w' =>
  (∃ A c,e=.returned (.tuple #[.agg (ap14 (ctD cc L) i A c).C,.int .i64 0])∧(ap14 (ctD cc L) i A c).at w'∧(∀ ad,A=some ad→w.heap.size≤ad.block))∧Tn (p+1) w w'∧KyAt w' (p+1) p (i:Int) (sdI 3 i) (ksL 3 2 i) 2 (2^2):=by
 have hp:=pow5 2 (by omega)
 have hl:(ksL 3 2 i).length=2^2:=yR _ _
 exact(zk9 (p+1) p (i:Int) (sdI 3 i) (ksL 3 2 i) 1 (2^2) (by rw [hl];omega) (by rw [hl];omega) (by rw [hl];omega) (by rw [hl];exact hp.2) (xM _ _) (zbv _ _) (fun j hj=>by
  rw [hl]at hj
  unfold ksL
  rw [kE _ 2 (by omega) j hj];omega) (i:Int) ⟨by omega,by omega⟩ cc hci CA ck L hL40 (by rw [hl];decide) (by decide) w hS hSp hk).mono fun e w' ⟨⟨A,c,h1,h2,h3⟩,h4,h5⟩=>⟨⟨A,c,h1,h2,h3⟩,h4,h5⟩
def AP.tx (S:AP):List UInt8:=akT S.cm S.who S.sw S.lf S.s S.l
structure AP.gd (S:AP):Prop where
 ok:S.ok
 who:-2147483648≤S.who∧S.who≤2147483647
 sw:0≤S.sw∧S.sw≤15
 lf:0≤S.lf
 len:S.l.length≤8
theorem ak_tx {S:AP} (h:S.gd):akE S.tx=0∧akO S.tx=⟨S.cm,S.who,((S.sw,S.lf),(fun k=>(oneL S.s).getD k 0),S.l)⟩:=by
 have hs:splitF S.tx=some [hexL S.cm,Lib.itoa S.who,sgT S.sw S.lf S.s S.l]:=by
  unfold AP.tx akT
  exact zaq _
 have h1:=zcr hs
 have p1:=jI h.ok.who.1 h.ok.who.2
 have p0:=kS S.cm h.ok.cm
 have p3:=znj S.sw S.lf S.s S.l h.ok.sw h.ok.lf h.ok.s h.ok.l
 have hb:sigB S.sw S.lf S.l.length=true:=by
  unfold sigB
  simp only [Bool.and_eq_true,decide_eq_true_eq]
  exact⟨⟨h.sw,h.lf⟩,h.len⟩
 rw [hb,if_pos rfl]at p3
 have e:ak3 (hexL S.cm) (Lib.itoa S.who) (sgT S.sw S.lf S.s S.l)=true:=by
  have hw:=h.who
  unfold ak3 smallB
  rw [p0,p1,p3]
  simp only [decide_true,Bool.true_and,Option.isSome_some,Bool.and_true,decide_eq_true_eq]
  exact hw
 rw [e]at h1
 simp only [if_true]at h1
 refine⟨h1.1,h1.2.trans ?_⟩
 unfold akF
 rw [p0,p1,p3]
 rfl
theorem zle (cm:Nat) (who sw lf:Int) (s t:Nat→Nat) (pv:Value) (h:∀ k,k<18→s k=t k):akC cm who sw lf s pv=akC cm who sw lf t pv:=by
 unfold akC
 simp only [h 0 (by omega),h 1 (by omega),h 2 (by omega),h 3 (by omega),h 4 (by omega),h 5 (by omega),h 6 (by omega),h 7 (by omega),h 8 (by omega),h 9 (by omega),h 10 (by omega),h 11 (by omega),h 12 (by omega),h 13 (by omega),h 14 (by omega),h 15 (by omega),h 16 (by omega),h 17 (by omega)]
theorem znv {S:AP} (h:S.gd) (tj:ByteArray) (ht:tj.data.toList=S.tx) (hz:tj.size≤1000000) (w:World) (hS:Std w) :
 Calls Tryz.prog 31 #[.string tj] w fun e w'=>(∃ A c,e=.returned (.tuple #[.agg (S.mv A c).C,.int .i64 0])∧(S.mv A c).at w')∧Grew w w' :=
 (zf8 tj hz w hS).mono fun e w' ⟨⟨A,c,h1,h2,_⟩,g⟩=>by
  rw [ht]at h1 h2
  rw [(ak_tx h).1,(ak_tx h).2]at h1
  rw [(ak_tx h).2]at h2
  refine⟨⟨A,c,h1.trans ?_,h2⟩,g⟩
  rw [show(S.mv A c).C=_ from zle S.cm S.who S.sw S.lf S.s (fun k=>(oneL S.s).getD k 0) (.slice A S.l.length c) (fun k hk=>by simp [oneL,hk])]
  rfl
theorem zpr {S:AP} (h:S.ok) (w:World) (hS:Std w) (ha:S.at w) :
 Calls Tryz.prog 32 #[.agg S.C] w fun e w'=>e=.returned (.string ⟨S.tx.toArray⟩)∧Grew w w' :=
 zkk S.cm S.who S.sw S.lf S.s S.A S.c S.l h.cm h.who h.sw h.lf h.len h.s h.l w hS ha
theorem of_ap (S:AP) (hl:S.l.length≤1048576) (w:World) (ha:S.at w) :
 Calls Tryz.prog 43 #[.agg S.C] w fun e w'=>∃ A' c',e=.returned (.agg (akC S.cm S.who S.sw S.lf S.s (.slice A' S.l.length c')))∧Rd w' w'.heap.size A' (u64L S.l)∧Grew w w'∧(∀ ad,A'=some ad→w.heap.size≤ad.block) :=
 zpg S.cm S.who S.sw S.lf S.s S.A S.c S.l hl w ha
theorem zps {d:Nat} {M:List AP} {A1 A2 A3:Option Addr} {c1 c2 c3:Nat} (h:MvA [ap14 d 1 A1 c1,ap14 d 2 A2 c2,ap14 d 3 A3 c3] M):∃ A1 A2 A3 c1 c2 c3,M=[ap14 d 1 A1 c1,ap14 d 2 A2 c2,ap14 d 3 A3 c3]:=by
 have hl:M.length=3:=by rw [h.len];rfl
 match M,hl with
 | [a,b,c],_ =>
  obtain⟨B1,b1,e1⟩:=h.each 0 (by simp) (by simp)
  obtain⟨B2,b2,e2⟩:=h.each 1 (by simp) (by simp)
  obtain⟨B3,b3,e3⟩:=h.each 2 (by simp) (by simp)
  refine⟨B1,B2,B3,b1,b2,b3,?_⟩
  simp only [List.getElem_cons_zero,List.getElem_cons_succ]at e1 e2 e3
  rw [e1,e2,e3]
  rfl
theorem zlf:akW 77 2=[124,97,99,107,124,48,48,48,48,48,48,48,48,48,48,48,48,48,48,52,100,124,50]:=by decide +kernel
noncomputable def spG (seed:Int) (h u D:Nat) (t0:Int) (i:Nat) (A:Option Addr) (c:Nat):SP:=stpK seed h i u D (t0+(i:Int)) A c
noncomputable def kpH (seed:Int) (h:Nat) (RA:Option Addr) (Rc:Nat):KP:=⟨1,rtL seed h 4,RA,Rc,(h:Int)⟩
theorem kpH_ok (seed:Int) (h:Nat) (hh:h≤4) (RA:Option Addr) (Rc:Nat):(kpH seed h RA Rc).ok:=⟨⟨by show(1:Int)≤1;omega,by show(1:Int)≤3;omega⟩,by show(rtL seed h 4).length≤1000;rw [xG];omega,rt_lt _ _ _ (by omega)⟩
noncomputable def lG (seed:Int) (h u D:Nat) (t0:Int) (n:Nat):List SP:=(List.range n).map (fun j=>spG seed h u D t0 j none 0)
theorem zpt (seed:Int) (h u D:Nat) (t0:Int) (n:Nat):lG seed h u D t0 (n+1)=lG seed h u D t0 n++[spG seed h u D t0 n none 0]:=by simp [lG,List.range_succ]
theorem lG_mv {seed:Int} {h u D:Nat} {t0:Int} {M:List SP} (hm:MvL (lG seed h u D t0 4) M):∃ A0 A1 A2 A3 c0 c1 c2 c3,M=[spG seed h u D t0 0 A0 c0,spG seed h u D t0 1 A1 c1,spG seed h u D t0 2 A2 c2,spG seed h u D t0 3 A3 c3]:=by
 have hl:M.length=4:=by rw [hm.len];simp [lG]
 match M,hl with
 | [a,b,c,d],_ =>
  obtain⟨A0,c0,e0⟩:=hm.each 0 (by simp [lG]) (by simp)
  obtain⟨A1,c1,e1⟩:=hm.each 1 (by simp [lG]) (by simp)
  obtain⟨A2,c2,e2⟩:=hm.each 2 (by simp [lG]) (by simp)
  obtain⟨A3,c3,e3⟩:=hm.each 3 (by simp [lG]) (by simp)
  refine⟨A0,A1,A2,A3,c0,c1,c2,c3,?_⟩
  simp only [lG,List.getElem_map,List.getElem_range,List.getElem_cons_zero,List.getElem_cons_succ]at e0 e1 e2 e3
  rw [e0,e1,e2,e3]
  rfl
section
variable (seed : Int) (h u : Nat) (hh : h ≤ 4) (hu : u < 2 ^ h) (D : Nat) (t0 : Int) (ht : 1 ≤ t0 ∧ t0 ≤ 1099511627700) (RA : Option Addr) (Rc : Nat)
include hh hu ht
theorem spG_ok (hD:D<18446744073709551616) (i:Nat) (hi:i<4) (A:Option Addr) (c:Nat):(spG seed h u D t0 i A c).ok:=zpi seed h i u D _ A c hh hi hu hD ⟨by omega,by omega⟩
theorem vaG (i:Nat) (hi:i<4) (A:Option Addr) (c:Nat):vaS (kpH seed h RA Rc) (spG seed h u D t0 i A c)=0 :=
 zkt seed h (by omega) i u hi hu D (t0+(i:Int)) (decide_eq_true (by omega))
theorem fitG (i:Nat) (hi:i<4) (A:Option Addr) (c:Nat):fitB (kpH seed h RA Rc) D (spG seed h u D t0 i A c)=true:=by
 unfold fitB
 rw [vaG seed h u hh hu D t0 ht RA Rc i hi A c]
 simp [spG,stpK]
omit hh hu ht in
theorem eachG (A0 A1 A2 A3:Option Addr) (c0 c1 c2 c3:Nat):eachL SP.who [spG seed h u D t0 0 A0 c0,spG seed h u D t0 1 A1 c1,spG seed h u D t0 2 A2 c2,spG seed h u D t0 3 A3 c3]=[spG seed h u D t0 0 A0 c0,spG seed h u D t0 1 A1 c1,spG seed h u D t0 2 A2 c2,spG seed h u D t0 3 A3 c3]:=by
 rw [xi SP.who _ 4 (fun x hx=>by
  simp only [List.mem_cons,List.not_mem_nil,or_false]at hx
  rcases hx with rfl | rfl | rfl | rfl<;>exact⟨by show(0:Int)≤((_:Nat):Int);omega,by show((_:Nat):Int)<4;omega⟩)]
 simp [upTo,List.range_succ,spG,stpK,List.find?]
theorem zpu {c:Cm} (hD:dgC c=D) (A0 A1 A2 A3:Option Addr) (c0 c1 c2 c3:Nat):chosen (kpH seed h RA Rc) (dgC c) [spG seed h u D t0 0 A0 c0,spG seed h u D t0 1 A1 c1,spG seed h u D t0 2 A2 c2,spG seed h u D t0 3 A3 c3]=[spG seed h u D t0 0 A0 c0,spG seed h u D t0 1 A1 c1,spG seed h u D t0 2 A2 c2]:=by
 unfold chosen
 rw [hD,List.filter_eq_self.2 (fun x hx=>by
  simp only [List.mem_cons,List.not_mem_nil,or_false]at hx
  rcases hx with rfl | rfl | rfl | rfl<;>exact fitG seed h u hh hu D t0 ht RA Rc _ (by omega) _ _),eachG]
 rfl
theorem zpv {c:Cm} (hD:dgC c=D) (A0 A1 A2 A3:Option Addr) (c0 c1 c2 c3:Nat):enoughB (kpH seed h RA Rc) (dgC c) [spG seed h u D t0 0 A0 c0,spG seed h u D t0 1 A1 c1,spG seed h u D t0 2 A2 c2,spG seed h u D t0 3 A3 c3]=true:=by
 unfold enoughB
 rw [hD,List.filter_eq_self.2 (fun x hx=>by
  simp only [List.mem_cons,List.not_mem_nil,or_false]at hx
  rcases hx with rfl | rfl | rfl | rfl<;>exact fitG seed h u hh hu D t0 ht RA Rc _ (by omega) _ _),eachG]
 rfl
end
theorem zpw:(Tryz.prog.info? 40).map (·.size)=some 5:=by kernel_rfl
theorem c12_ok (n:Int) (w:World):Calls Tryz.prog 55 #[.int .i64 n] w fun e w'=>e=.returned (.agg (cm12 n).cells)∧Grew w w':=by
 show Calls _ _ _ _ fun e w'=>e=.returned (.agg #[.int .i64 1,.int .i64 n,.int .i64 2,.int .i64 3,.int .i64 4])∧Grew w w'
 have z0:=Ag.new w 40 #[.int .i64 0,.int .i64 0,.int .i64 0,.int .i64 0,.int .i64 0]
 have g0:=ze (za w) (.cells #[.int .i64 0,.int .i64 0,.int .i64 0,.int .i64 0,.int .i64 0] 40)
 have hut:=Tryz.underlying40
 have hi5:=zpw
 have zf:=Ag.set (vs:=(#[.int .i64 1,.int .i64 n,.int .i64 2,.int .i64 3,.int .i64 4]:Array Value).toList) z0 rfl
 have Gf:=zh (o:=0) (b:=w.heap.size) (#[.int .i64 1,.int .i64 n,.int .i64 2,.int .i64 3,.int .i64 4]:Array Value).toList g0 (zN9 _)
 go_enter Tryz.func55,Tryz.ntmps55
 go_wp2_with(refine wpList_store_mid rfl 40 (.tmp 2) (.tmp 4) rfl w.heap.size 0 #[.int .i64 1,.int .i64 n,.int .i64 2,.int .i64 3,.int .i64 4] rfl rfl (z0.thereN 5 rfl) hi5 (by simp [Value.oneCell']) ?_)
 exact bodyPost_ret (zL Tryz.results55 _ _ w.heap.size _ _ rfl zf hut rfl hi5) rfl ⟨rfl,Gf⟩
theorem mv_map {α:Type} (f:SP→α) (hf:∀ S A c,f (S.mv A c)=f S) {L M:List SP} (h:MvL L M):M.map f=L.map f:=by
 apply List.ext_getElem (by simp [h.len])
 intro k h1 h2
 obtain⟨A,c,e⟩:=h.each k (by simpa using h2) (by simpa using h1)
 rw [List.getElem_map,List.getElem_map,e,hf]
theorem zpx {c:Cm} {L M:List SP} (h:MvL L M):ctTx c M=ctTx c L:=by
 unfold ctTx
 rw [mv_map SP.tx (fun S A c=>rfl) h]
theorem ze4 {c:Cm} {L M:List SP} (h:MvL L M):ctD c M=ctD c L:=by
 unfold ctD
 rw [zpx h]
theorem zlg (c:Cm) (A:Option Addr) (k:Nat) (L:List SP) (hl:L.length≤100000) (w:World) (hL:Sps w A L) :
 Calls Tryz.prog 69 #[.agg (ctC c A L.length k)] w fun e w'=>OfV L w.heap.size w' (match e with | .returned v=>v | _=>undef) (fun B n=>.agg (ctC c B L.length n))∧(∃ v,e=.returned v)∧Grew w w':=by
 have huc:=Tryz.underlying40
 have hur:=Tryz.underlying36
 have SIC:Hid (zI9 40=some c.cells.toList.length):=hQ9 (show _=some 5 by kernel_rfl)
 have z1:=(Ag.new w 43 (ctC c A L.length k)).grew (ze (za _) (.cells (zS6:Array Value) 36))
 have y1:=Ag.new (w.alloc (.cells (ctC c A L.length k) 43)) 36 (zS6:Array Value)
 rw [zl]at y1
 have G1:=ze (ze (za w) (.cells (ctC c A L.length k) 43)) (.cells (zS6:Array Value) 36)
 have CO:=hQ9 (fun W=>cof_ok c W)
 rw [show c.v=.agg c.cells from rfl]at CO
 have HLS:=hQ9 (hL.gr G1)
 have CA:=hQ9 (fun W (h:Sps W A L)=>znt A k L hl W h)
 have HBU:∀(B:Option Addr) (n:Nat),Hid (Tryz.prog.built 36 [(0,.agg c.cells),(1,.slice B L.length n)]=some (ctC c B L.length n)):=fun B n=>hQ9 (by kernel_rfl)
 have HSZ:Hid (((w.alloc (.cells (ctC c A L.length k) 43)).alloc (.cells (#[.int .i64 0,.int .i64 0,.int .i64 0,.int .i64 0,.int .i64 0,.slice none 0 0]:Array Value) 36)).heap.size=w.heap.size+2):=hQ9 (by simp)
 clear hL
 go_enter Tryz.func69,Tryz.ntmps69
 go_upto_region 1 with fail
 generalize (w.alloc (.cells (ctC c A L.length k) 43)).alloc (.cells (zS6:Array Value) 36)=w1 at *
 have HMC:=hQ9 (fun y (g:Grew w1 y)=>xk (z1.grew g))
 have HC5:Hid (∀ y,Grew w1 y→y.cell? ⟨w.heap.size,5,none⟩=some (.slice A L.length k)):=hQ9 (fun y g=>by simpa using (z1.grew g).cell 5 _ rfl)
 clear z1
 refine zv 7 (fun ix9=>match ix9 with
  | 0=>fun v _=>v=.pointer (some ⟨w.heap.size,0,none⟩)
  | 1=>fun v _=>v=.agg c.cells
  | 2=>fun v _=>v=.agg c.cells
  | 3=>fun v _=>v=.pointer (some ⟨w.heap.size,5,none⟩)
  | 4=>fun v _=>v=.slice A L.length k
  | 5=>fun v z=>OfV L w1.heap.size z v (fun B n=>.slice B L.length n)
  | 6=>fun v z=>OfV L w1.heap.size z v (fun B n=>.agg (ctC c B L.length n))
  | _=>fun _ _=>True) (by kernel_rfl) (by kernel_rfl) ?_ ?_ ?_
 ·intro i v x y h hg
  match i,h with
  | 0,h | 1,h | 2,h | 3,h | 4,h=>exact h
  | 5,h=>exact OfV.gr h hg
  | 6,h=>exact OfV.gr h hg
  | m+7,_=>trivial
 ·simp only [actOf,tk1,tk0,dr1,dr0,Act.put,si1,st1,st0,Nat.reduceAdd]
  refine⟨?_,?_,?_,?_,?_,?_,?_,trivial⟩
  ·intro vs y hg hd
   dsimp only
   go_wp2_with fail
   exact⟨rfl,_,rfl,za _,rfl⟩
  ·intro vs y hg hd
   obtain⟨h0,_⟩:=hd
   replace h0:=h0 rfl
   dsimp only
   rw [show vs 0=_ from h0]
   have hm:=HMC.out y hg
   go_wp2_with(with_reducible refine wpList_load_mid rfl 40 (.tmp 3) rfl w.heap.size 0 rfl c.cells.toList _ hm huc rfl SIC.out ?_;simp only [zT9])
   exact⟨rfl,_,rfl,za _,rfl⟩
  ·intro vs y hg hd
   obtain⟨h1,_⟩:=hd
   replace h1:=h1 rfl
   dsimp only
   rw [show vs 1=_ from h1]
   go_wp2_with(go_at_call 141;refine(CO.out y).mono ?_;rintro e z ⟨rfl,gz⟩)
   exact⟨rfl,_,rfl,gz,rfl⟩
  ·intro vs y hg hd
   dsimp only
   go_wp2_with fail
   exact⟨rfl,_,rfl,za _,rfl⟩
  ·intro vs y hg hd
   obtain⟨h4,_⟩:=hd
   replace h4:=h4 rfl
   dsimp only
   rw [show vs 3=_ from h4]
   have hc:=HC5.out y hg
   go_wp2_with fail
   exact⟨rfl,_,rfl,za _,rfl⟩
  ·intro vs y hg hd
   obtain⟨h5,_⟩:=hd
   replace h5:=h5 rfl
   dsimp only
   rw [show vs 4=_ from h5]
   go_wp2_with(go_at_call 142;refine(CA.out y (HLS.out.gr hg)).mono ?_;rintro e z ⟨B9,k9,M9,rfl,hmv9,hsp9,hcc1,hcc2,hbB9,hlw9,gz⟩)
   exact⟨rfl,_,rfl,gz,⟨B9,k9,M9,rfl,hmv9,hsp9,fun ad h=>Nat.le_trans hg.size (hbB9 ad h),fun S hS ad h=>(hlw9 S hS ad h).imp id (Nat.le_trans hg.size)⟩⟩
  ·intro vs y hg hd
   obtain⟨h2,h5,_⟩:=hd
   replace h2:=h2 rfl
   obtain⟨B9,k9,M9,e9,hr9⟩:=(h5 rfl).out
   dsimp only
   rw [show vs 2=_ from h2,show vs 5=_ from e9]
   have HB9:=HBU B9 k9
   go_wp2_with(with_reducible refine zC rfl 36 #[(0,.tmp 5),(1,.tmp 8)] rfl (ctC c B9 L.length k9) ?_ ?_;· simpa [Act.eval,Act.put]using HB9.out)
   exact⟨rfl,_,rfl,za _,⟨B9,k9,M9,rfl,hr9⟩⟩
 ·intro vs w2 hg hJ
  obtain⟨B9,k9,M9,e9,hmv9,hsp9,hbB9,hlw9⟩:=(show OfV L w1.heap.size w2 (vs 6) _ from hJ 6 (by decide)).out
  clear hJ
  simp only [actOf,tk1,tk0,dr1,dr0,Act.put,si1,st1,st0,Nat.reduceAdd]
  have y2:=y1.grew hg
  have G2:=zb G1 hg
  rw [e9]
  have HTH:Hid (w2.there (w.heap.size+1) 0 (ctC c B9 L.length k9).size):=hQ9 (y2.thereN 6 rfl)
  have HSI:Hid (zI9 36=some (ctC c B9 L.length k9).size):=hQ9 yZ
  have HON:=hQ9 (kx c B9 L.length k9)
  have zf:=Ag.set (vs:=(ctC c B9 L.length k9).toList) y2 rfl
  have Gf:=zh (o:=0) (b:=w.heap.size+1) (ctC c B9 L.length k9).toList G2 (Nat.le_succ _)
  have HBB:Hid (∀ ad,B9=some ad→w.heap.size≤ad.block):=hQ9 (fun ad h=>by have:=hbB9 ad h;have:=HSZ.out;omega)
  have HMM:Hid (∀ S∈M9,∀ ad,S.A=some ad→S.l=[]∨w.heap.size≤ad.block):=hQ9 (fun S hS ad h=>(hlw9 S hS ad h).imp id (fun h1=>by have:=HSZ.out;omega))
  have HSPS:=hQ9 (hsp9.kpx (zn (ctC c B9 L.length k9).toList (w.heap.size+1) 0 w2) (fun ad2 h e=>by have:=hbB9 ad2 h;have:=HSZ.out;omega) (fun T hT ad2 h=>by rcases hlw9 T hT ad2 h with h1 | h1;exact .inl h1;exact .inr (fun e=>by have:=HSZ.out;omega)))
  go_wp2_with(with_reducible refine wpList_store_mid rfl 36 (.tmp 2) (.tmp 9) rfl (w.heap.size+1) 0 (ctC c B9 L.length k9) rfl rfl HTH.out HSI.out HON.out ?_)
  exact bodyPost_ret (zL Tryz.results69 _ _ (w.heap.size+1) _ _ rfl zf hur rfl yZ) rfl ⟨⟨B9,k9,M9,rfl,hmv9,HSPS.out,HBB.out,HMM.out⟩,⟨_,rfl⟩,Gf⟩
end Go.Proofs.YtkpnheenacchhaaGreatDoor
