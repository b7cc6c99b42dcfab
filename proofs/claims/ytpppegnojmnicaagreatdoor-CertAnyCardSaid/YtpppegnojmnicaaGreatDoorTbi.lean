/- cmd.Digest, the reference's CmdText, CmdDigest. -/
import Derived.Test.YtpppegnojmnicaaGreatDoorTzz
import Derived.Test.YtpppegnojmnicaaGreatDoorTbd
import Derived.Test.YtpppegnojmnicaaGreatDoorTbh
import Derived.Test.YtpppegnojmnicaaGreatDoorTaf
import Derived.LoopN
import Derived.Test.YtpppegnojmnicaaGreatDoorTaz
set_option maxHeartbeats 4000000
set_option maxRecDepth 100000
set_option linter.unusedSimpArgs false
set_option linter.unusedVariables false
namespace Go.Proofs.YtpppegnojmnicaaGreatDoor
open Go.RowKit
theorem zab {c:Cm} (hc:c.in):(txC c).length≤105:=za7 c.l hc
def tagCmd:List UInt8:=[99,109,100]
noncomputable def dgC (c:Cm):Nat:=sumL tagCmd (txC c)
theorem je (c:Cm) (hc:c.in) (w:World) (hs:Std w):Calls Tryz.prog 43 #[c.v] w fun e w'=>e=.returned (.int .u64 (dgC c:Nat))∧Grew w w':=by
 have hl:=zab hc
 have HS:=hQ9 hs
 have HT:=hQ9 (fun(w:World) (h:Std w)=>zit c hc w h)
 have HD:=hQ9 (fun(w:World)=>zfk ⟨#[99,109,100]⟩ ⟨(txC c).toArray⟩ (by decide) (by show(txC c).toArray.size≤_;simp;omega) w)
 have HE:Hid (sumL (⟨#[99,109,100]⟩:ByteArray).data.toList (⟨(txC c).toArray⟩:ByteArray).data.toList=dgC c):=hQ9 rfl
 clear hs hc hl
 obtain⟨cl,no,fr,tt,am⟩:=c
 unfold Cm.v at HT ⊢
 go_enter Tryz.func43,Tryz.ntmps43
 go_wp2_with(go_at_call 83;refine(HT.out _ (HS.out.grew (ze (za w) _))).mono ?_;rintro e w1 ⟨rfl,g1⟩)
 have g1':Grew w w1:=zc (ze (za w) _) g1
 unfold txtV
 go_wp2_with(go_at_call 105;refine(HD.out _).mono ?_;rintro e w2 ⟨rfl,hw⟩;subst hw)
 go_ret
 exact⟨rfl,g1'⟩
theorem zgo (c:Cm) (hc:c.in) (w:World):Calls Tryz.prog 89 #[c.v] w fun e w'=>e=.returned (txtV (txC c))∧Grew w w':=by
 obtain⟨cl,no,fr,tt,am⟩:=c
 have HC5:Hid (∀ x∈[cl,no,fr,tt,am],in64 x):=hQ9 hc
 clear hc
 unfold Cm.v
 go_enter Tryz.func89,Tryz.ntmps89
 go_wp2_with fail
 have g0:=ze (ze (za w) (.cells #[.int .i64 cl,.int .i64 no,.int .i64 fr,.int .i64 tt,.int .i64 am] 26)) (.cells #[.int .i64 cl,.int .i64 no,.int .i64 fr,.int .i64 tt,.int .i64 am] 2)
 refine(zpn (some ⟨w.heap.size+1,0,none⟩) 5 [cl,no,fr,tt,am] (by simp) HC5.out _ (zo6 w (.cells #[.int .i64 cl,.int .i64 no,.int .i64 fr,.int .i64 tt,.int .i64 am] 26) 2 #[.int .i64 cl,.int .i64 no,.int .i64 fr,.int .i64 tt,.int .i64 am])).mono ?_
 rintro e w1 ⟨rfl,g1⟩
 go_wp2_with fail
 go_ret
 exact⟨rfl,zc g0 g1⟩
theorem zkb (c:Cm) (hc:c.in) (w:World):Calls Tryz.prog 100 #[c.v] w fun e w'=>e=.returned (.int .u64 (dgC c:Nat))∧Grew w w':=by
 have hl:=zab hc
 have HT:=hQ9 (fun(w:World)=>zgo c hc w)
 have HD:=hQ9 (fun(w:World)=>qC ⟨#[99,109,100]⟩ ⟨(txC c).toArray⟩ (by decide) (by show(txC c).toArray.size≤_;simp;omega) w)
 clear hc hl
 obtain⟨cl,no,fr,tt,am⟩:=c
 unfold Cm.v at HT ⊢
 go_enter Tryz.func100,Tryz.ntmps100
 go_wp2_with(go_at_call 89;refine(HT.out _).mono ?_;rintro e w1 ⟨rfl,g1⟩)
 have g1':Grew w w1:=zc (ze (za w) _) g1
 unfold txtV
 go_wp2_with(go_at_call 106;refine(HD.out _).mono ?_;rintro e w2 ⟨rfl,g2⟩)
 go_ret
 exact⟨rfl,zc g1' g2⟩
theorem zkc (s:ByteArray) (hs:s.size≤1048576) (v:List Int) (ev:Int) (hpn:pnums s.data.toList=(v,ev)) (hev:ev≠0) (w:World) (hS:Std w) (hg8:5<w.heap.size) :
 Calls Tryz.prog 80 #[.string s] w fun e w'=>e=.returned (.tuple #[Cm.zero.v,.int .i64 ev])∧Grew w w':=by
 have g0:=ze (za w) (.cells #[.int .i64 0,.int .i64 0,.int .i64 0,.int .i64 0,.int .i64 0] 33)
 have z0:=Ag.new w 33 #[.int .i64 0,.int .i64 0,.int .i64 0,.int .i64 0,.int .i64 0]
 have hi5:(Tryz.prog.info? 33).map (·.size)=some 5:=by kernel_rfl
 have hb:=zD w (.cells #[.int .i64 0,.int .i64 0,.int .i64 0,.int .i64 0,.int .i64 0] 33)
 have CP:=hQ9 (kT s hs _ (hS.grew g0) (Nat.lt_of_lt_of_le hg8 g0.size))
 rw [hpn]at CP
 dsimp only at CP
 have hev':(ev != 0)=true:=by simpa using hev
 clear hpn hS hg8
 go_enter Tryz.func80,Tryz.ntmps80
 go_wp2_with(first
  | (go_at_call 167;refine(CP.out).mono ?_;rintro e w1 ⟨⟨v1,rfl,o1⟩,g1⟩;have z1:=z0.grew g1;have gg:=zc g0 g1)
  | (refine wpList_store_mid rfl 33 (.tmp 2) (.tmp 17) rfl w.heap.size 0 #[.int .i64 0,.int .i64 0,.int .i64 0,.int .i64 0,.int .i64 0] rfl rfl (z1.thereN 5 rfl) hi5 (by simp [Value.oneCell']) ?_;have z2:=Ag.set (vs:=[.int .i64 0,.int .i64 0,.int .i64 0,.int .i64 0,.int .i64 0]) z1 rfl;have g2:=zg (o:=0) (b:=w.heap.size) [.int .i64 0,.int .i64 0,.int .i64 0,.int .i64 0,.int .i64 0] gg (Nat.le_refl _)))
 have c0:=z2.cell 0 _ rfl
 have c1:=z2.cell 1 _ rfl
 have c2:=z2.cell 2 _ rfl
 have c3:=z2.cell 3 _ rfl
 have c4:=z2.cell 4 _ rfl
 simp only [Nat.zero_add]at c0 c1 c2 c3 c4
 exact bodyPost_ret (v:=.tuple #[Cm.zero.v,.int .i64 ev]) (by simp [results,Tryz.f80,go_sem,c0,c1,c2,c3,c4];try rfl) rfl ⟨rfl,g2⟩
theorem zkd (s:ByteArray) (hs:s.size≤1048576) (v:List Int) (hpn:pnums s.data.toList=(v,0)) (hlen:v.length≠5) (w:World) (hS:Std w) (hg8:5<w.heap.size) :
 Calls Tryz.prog 80 #[.string s] w fun e w'=>e=.returned (.tuple #[Cm.zero.v,.int .i64 2])∧Grew w w':=by
 have g0:=ze (za w) (.cells #[.int .i64 0,.int .i64 0,.int .i64 0,.int .i64 0,.int .i64 0] 33)
 have z0:=Ag.new w 33 #[.int .i64 0,.int .i64 0,.int .i64 0,.int .i64 0,.int .i64 0]
 have hi5:(Tryz.prog.info? 33).map (·.size)=some 5:=by kernel_rfl
 have hb:=zD w (.cells #[.int .i64 0,.int .i64 0,.int .i64 0,.int .i64 0,.int .i64 0] 33)
 have CP:=hQ9 (kT s hs _ (hS.grew g0) (Nat.lt_of_lt_of_le hg8 g0.size))
 rw [hpn]at CP
 dsimp only at CP
 have hne:((v.length:Int) != 5)=true:=by simpa using (by omega:¬(v.length:Int)=5)
 clear hpn hlen hS hg8
 go_enter Tryz.func80,Tryz.ntmps80
 go_wp2_with(first
  | (go_at_call 167;refine(CP.out).mono ?_;rintro e w1 ⟨⟨v1,rfl,o1⟩,g1⟩;obtain⟨A1,k1,rfl,_,_,r1⟩:=zv o1;have z1:=z0.grew g1;have gg:=zc g0 g1)
  | (refine wpList_store_mid rfl 33 (.tmp 2) (.tmp 22) rfl w.heap.size 0 #[.int .i64 0,.int .i64 0,.int .i64 0,.int .i64 0,.int .i64 0] rfl rfl (z1.thereN 5 rfl) hi5 (by simp [Value.oneCell']) ?_;have z2:=Ag.set (vs:=[.int .i64 0,.int .i64 0,.int .i64 0,.int .i64 0,.int .i64 0]) z1 rfl;have g2:=zg (o:=0) (b:=w.heap.size) [.int .i64 0,.int .i64 0,.int .i64 0,.int .i64 0,.int .i64 0] gg (Nat.le_refl _)))
 have c0:=z2.cell 0 _ rfl
 have c1:=z2.cell 1 _ rfl
 have c2:=z2.cell 2 _ rfl
 have c3:=z2.cell 3 _ rfl
 have c4:=z2.cell 4 _ rfl
 simp only [Nat.zero_add]at c0 c1 c2 c3 c4
 exact bodyPost_ret (v:=.tuple #[Cm.zero.v,.int .i64 2]) (by simp [results,Tryz.f80,go_sem,c0,c1,c2,c3,c4];try rfl) rfl ⟨rfl,g2⟩
theorem zhv (s:ByteArray) (hs:s.size≤1048576) (a b c d e:Int) (hpn:pnums s.data.toList=([a,b,c,d,e],0)) (R:Cm × Int) (hR1:¬(smallC a∧smallC b∧smallC c∧smallC d)→R=(Cm.zero,2)) (hR2:(smallC a∧smallC b∧smallC c∧smallC d)→¬okC ⟨a,b,c,d,e⟩→R=(Cm.zero,1)) (hR3:(smallC a∧smallC b∧smallC c∧smallC d)→okC ⟨a,b,c,d,e⟩→R=(⟨a,b,c,d,e⟩,0)) (w:World) (hS:Std w) (hg8:5<w.heap.size) :
 Calls Tryz.prog 80 #[.string s] w fun x w'=>x=.returned (.tuple #[R.1.v,.int .i64 R.2])∧Grew w w':=by
 have g0:=ze (za w) (.cells #[.int .i64 0,.int .i64 0,.int .i64 0,.int .i64 0,.int .i64 0] 33)
 have z0:=Ag.new w 33 #[.int .i64 0,.int .i64 0,.int .i64 0,.int .i64 0,.int .i64 0]
 have hi5:(Tryz.prog.info? 33).map (·.size)=some 5:=by kernel_rfl
 have hb:=zD w (.cells #[.int .i64 0,.int .i64 0,.int .i64 0,.int .i64 0,.int .i64 0] 33)
 have CP:=hQ9 (kT s hs _ (hS.grew g0) (Nat.lt_of_lt_of_le hg8 g0.size))
 rw [hpn]at CP
 dsimp only at CP
 have HR1:=hQ9 hR1
 have HR2:=hQ9 hR2
 have HR3:=hQ9 hR3
 clear hpn hS hg8 hR1 hR2 hR3
 go_enter Tryz.func80,Tryz.ntmps80
 go_wp2_with fail
 refine(CP.out).mono ?_
 rintro e w1 ⟨⟨v1,rfl,o1⟩,g1⟩
 obtain⟨A1,k1,rfl,hlk,_,r1⟩:=zv o1
 obtain⟨ad,rfl,hlt,k_0⟩:=yJ r1 0 (by simp)
 have hk5:5≤k1:=hlk
 have hk4:(4:Int)≤(k1:Int):=by omega
 have z1:=z0.grew g1
 have gg:=zc g0 g1
 have kk:∀(j:Nat) (hj:j<5),w1.cell? (ad.add j)=some (.int .i64 ([a,b,c,d,e][j]'hj)):=fun j hj=>by obtain⟨ad',e1,_,h⟩:=yJ r1 j hj;injection e1 with e1;subst e1;exact h
 have k_1:w1.cell? ⟨ad.block,ad.off+1,none⟩=some (.int .i64 b):=by
  have h:w1.cell? (ad.add 1)=some (.int .i64 b):=kk 1 (by decide)
  simpa [Addr.add]using h
 have k_2:w1.cell? ⟨ad.block,ad.off+2,none⟩=some (.int .i64 c):=by
  have h:w1.cell? (ad.add 2)=some (.int .i64 c):=kk 2 (by decide)
  simpa [Addr.add]using h
 have k_3:w1.cell? ⟨ad.block,ad.off+3,none⟩=some (.int .i64 d):=by
  have h:w1.cell? (ad.add 3)=some (.int .i64 d):=kk 3 (by decide)
  simpa [Addr.add]using h
 have k_4:w1.cell? ⟨ad.block,ad.off+4,none⟩=some (.int .i64 e):=by
  have h:w1.cell? (ad.add 4)=some (.int .i64 e):=kk 4 (by decide)
  simpa [Addr.add]using h
 have k_0:w1.cell? ad=some (.int .i64 a):=by simpa [Addr.add]using k_0
 have KK:=hQ9 kk
 have K0:=hQ9 k_0
 have K1:=hQ9 k_1
 have K2:=hQ9 k_2
 have K3:=hQ9 k_3
 have K4:=hQ9 k_4
 clear kk k_0 k_1 k_2 k_3 k_4 r1 o1
 go_wp2_with fail
 go_loopw [26] (fun iv wr=>∃ k:Nat,k≤4∧iv=.int .i64 k∧Hid (∀ j (h:j<5),j<k→smallC ([a,b,c,d,e][j]'h))∧wr=w1) (fun iv _=>4-(intOf iv).toNat)
 case atStart=>exact⟨0,by omega,rfl,hQ9 (fun j _ h=>absurd h (by omega)),rfl⟩
 case round =>
  obtain⟨k,hk,rfl,HM,hwr⟩:=hrel
  have hwr:=hwr.symm
  subst hwr
  by_cases hlt4:k<4
  ·have hc:=KK.out k (by omega)
   have hk0:(0:Int)≤(k:Int):=by omega
   have hk1:(k:Int)<4:=by omega
   have e4:IntKind.i64.wrap ((k:Int)+1)=(k:Int)+1:=IntWalk.i64_in _ (by omega)
   have HX:Hid (smallC ([a,b,c,d,e][k]'(show k<5 by omega))→∀ j (h:j<5),j<k+1→smallC ([a,b,c,d,e][j]'h)):=hQ9 (fun h j h1 h2=>by
    by_cases hjk:j=k
    ·subst hjk;exact h
    ·exact HM.out j h1 (by omega))
   have HN:Hid (¬smallC ([a,b,c,d,e][k]'(show k<5 by omega))→¬(smallC a∧smallC b∧smallC c∧smallC d)):=hQ9 (fun h hh=>h (by
    obtain⟨h1,h2,h3,h4⟩:=hh
    match k,hlt4 with
    | 0,_=>exact h1
    | 1,_=>exact h2
    | 2,_=>exact h3
    | 3,_=>exact h4))
   generalize [a,b,c,d,e][k]'(show k<5 by omega)=x at *
   by_cases hsm:smallC x
   ·have hx1:¬x < -2147483648:=by unfold smallC at hsm;omega
    have hx2:¬2147483647<x:=by unfold smallC at hsm;omega
    have HX2:=hQ9 (HX.out hsm)
    clear hsm HX HN
    go_wp2_with fail
    go_roundw
    case rel=>exact⟨k+1,by omega,by go_num,HX2,by trivial⟩
    case measure=>simp [intOf];omega
   ·have hRR:=HR1.out (HN.out hsm)
    have HRR:=hQ9 hRR
    have hxx:x < -2147483648∨(¬x < -2147483648∧2147483647<x):=by unfold smallC at hsm;omega
    clear hsm HX HN HM hRR
    rcases hxx with hx1 | ⟨hx1,hx2⟩
    all_goals
     go_wp2_with(first
      | (refine wpList_store_mid rfl 33 (.tmp 2) (.tmp 36) rfl w.heap.size 0 #[.int .i64 0,.int .i64 0,.int .i64 0,.int .i64 0,.int .i64 0] rfl rfl (z1.thereN 5 rfl) hi5 (by simp [Value.oneCell']) ?_;have z2:=Ag.set (vs:=[.int .i64 0,.int .i64 0,.int .i64 0,.int .i64 0,.int .i64 0]) z1 rfl;have g2:=zg (o:=0) (b:=w.heap.size) [.int .i64 0,.int .i64 0,.int .i64 0,.int .i64 0,.int .i64 0] gg (Nat.le_refl _)))
     rw [HRR.out]
     have c0:=z2.cell 0 _ rfl
     have c1:=z2.cell 1 _ rfl
     have c2:=z2.cell 2 _ rfl
     have c3:=z2.cell 3 _ rfl
     have c4:=z2.cell 4 _ rfl
     simp only [Nat.zero_add]at c0 c1 c2 c3 c4
     exact bodyPost_ret (v:=.tuple #[Cm.zero.v,.int .i64 2]) (by simp [results,Tryz.f80,go_sem,c0,c1,c2,c3,c4];try rfl) rfl ⟨rfl,g2⟩
  ·obtain rfl:k=4:=by omega
   have hall:smallC a∧smallC b∧smallC c∧smallC d:=⟨HM.out 0 (by decide) (by decide),HM.out 1 (by decide) (by decide),HM.out 2 (by decide) (by decide),HM.out 3 (by decide) (by decide)⟩
   have HR2:=hQ9 (HR2.out hall)
   have HR3:=hQ9 (HR3.out hall)
   have k_0:=K0.out
   have k_1:=K1.out
   have k_2:=K2.out
   have k_3:=K3.out
   have k_4:=K4.out
   clear hall HM HR1 KK hlt4 hk K0 K1 K2 K3 K4
   go_wp2_with fail
   refine zH 17 (fun i=>match i with
    | 0=>fun v _=>v=.slice (some ad) 5 k1
    | 1=>fun v _=>v=.pointer (some ad)
    | 2=>fun v _=>v=.int .i64 a
    | 3=>fun v _=>v=.slice (some ad) 5 k1
    | 4=>fun v _=>v=.pointer (some ⟨ad.block,ad.off+1,none⟩)
    | 5=>fun v _=>v=.int .i64 b
    | 6=>fun v _=>v=.slice (some ad) 5 k1
    | 7=>fun v _=>v=.pointer (some ⟨ad.block,ad.off+2,none⟩)
    | 8=>fun v _=>v=.int .i64 c
    | 9=>fun v _=>v=.slice (some ad) 5 k1
    | 10=>fun v _=>v=.pointer (some ⟨ad.block,ad.off+3,none⟩)
    | 11=>fun v _=>v=.int .i64 d
    | 12=>fun v _=>v=.slice (some ad) 5 k1
    | 13=>fun v _=>v=.pointer (some ⟨ad.block,ad.off+4,none⟩)
    | 14=>fun v _=>v=.int .i64 e
    | 15=>fun v _=>v=.agg #[.int .i64 a,.int .i64 b,.int .i64 c,.int .i64 d,.int .i64 e]
    | 16=>fun v w=>∃ q,v=.pointer (some ⟨q,0,none⟩)∧Ag w q [.int .i64 0,.int .i64 0,.int .i64 0,.int .i64 0,.int .i64 0]∧w1.heap.size≤q
    | _=>fun _ _=>True) (by kernel_rfl) (by kernel_rfl) ?_ ?_ ?_
   ·intro i v x y h hg
    match i,h with
    | 0,h | 1,h | 2,h | 3,h | 4,h | 5,h | 6,h | 7,h | 8,h | 9,h | 10,h | 11,h | 12,h | 13,h | 14,h | 15,h=>exact h
    | 16,⟨q,h1,h2,h3⟩=>exact⟨q,h1,h2.grew hg,h3⟩
    | n+17,_=>trivial
   ·simp only [actOf,tk1,tk0,dr1,dr0,Act.put,si1,st1,st0,Nat.reduceAdd]
    refine⟨?_,?_,?_,?_,?_,?_,?_,?_,?_,?_,?_,?_,?_,?_,?_,?_,?_,trivial⟩
    ·intro vs y hg hd
     dsimp only
     go_wp2_with fail
     exact⟨rfl,_,rfl,za _,rfl⟩
    ·intro vs y hg hd
     obtain⟨h0,_⟩:=hd
     replace h0:=h0 rfl
     dsimp only
     rw [show vs 0=_ from h0]
     go_wp2_with fail
     exact⟨rfl,_,rfl,za _,rfl⟩
    ·intro vs y hg hd
     obtain⟨h1,_⟩:=hd
     replace h1:=h1 rfl
     dsimp only
     rw [show vs 1=_ from h1]
     have hc:=(hg.cell (p:=ad) hlt).trans k_0
     go_wp2_with fail
     exact⟨rfl,_,rfl,za _,rfl⟩
    ·intro vs y hg hd
     dsimp only
     go_wp2_with fail
     exact⟨rfl,_,rfl,za _,rfl⟩
    ·intro vs y hg hd
     obtain⟨h3,_⟩:=hd
     replace h3:=h3 rfl
     dsimp only
     rw [show vs 3=_ from h3]
     go_wp2_with fail
     exact⟨rfl,_,rfl,za _,rfl⟩
    ·intro vs y hg hd
     obtain⟨h4,_⟩:=hd
     replace h4:=h4 rfl
     dsimp only
     rw [show vs 4=_ from h4]
     have hc:=(hg.cell (p:=⟨ad.block,ad.off+1,none⟩) hlt).trans k_1
     go_wp2_with fail
     exact⟨rfl,_,rfl,za _,rfl⟩
    ·intro vs y hg hd
     dsimp only
     go_wp2_with fail
     exact⟨rfl,_,rfl,za _,rfl⟩
    ·intro vs y hg hd
     obtain⟨h6,_⟩:=hd
     replace h6:=h6 rfl
     dsimp only
     rw [show vs 6=_ from h6]
     go_wp2_with fail
     exact⟨rfl,_,rfl,za _,rfl⟩
    ·intro vs y hg hd
     obtain⟨h7,_⟩:=hd
     replace h7:=h7 rfl
     dsimp only
     rw [show vs 7=_ from h7]
     have hc:=(hg.cell (p:=⟨ad.block,ad.off+2,none⟩) hlt).trans k_2
     go_wp2_with fail
     exact⟨rfl,_,rfl,za _,rfl⟩
    ·intro vs y hg hd
     dsimp only
     go_wp2_with fail
     exact⟨rfl,_,rfl,za _,rfl⟩
    ·intro vs y hg hd
     obtain⟨h9,_⟩:=hd
     replace h9:=h9 rfl
     dsimp only
     rw [show vs 9=_ from h9]
     go_wp2_with fail
     exact⟨rfl,_,rfl,za _,rfl⟩
    ·intro vs y hg hd
     obtain⟨h10,_⟩:=hd
     replace h10:=h10 rfl
     dsimp only
     rw [show vs 10=_ from h10]
     have hc:=(hg.cell (p:=⟨ad.block,ad.off+3,none⟩) hlt).trans k_3
     go_wp2_with fail
     exact⟨rfl,_,rfl,za _,rfl⟩
    ·intro vs y hg hd
     dsimp only
     go_wp2_with fail
     exact⟨rfl,_,rfl,za _,rfl⟩
    ·intro vs y hg hd
     obtain⟨h12,_⟩:=hd
     replace h12:=h12 rfl
     dsimp only
     rw [show vs 12=_ from h12]
     go_wp2_with fail
     exact⟨rfl,_,rfl,za _,rfl⟩
    ·intro vs y hg hd
     obtain⟨h13,_⟩:=hd
     replace h13:=h13 rfl
     dsimp only
     rw [show vs 13=_ from h13]
     have hc:=(hg.cell (p:=⟨ad.block,ad.off+4,none⟩) hlt).trans k_4
     go_wp2_with fail
     exact⟨rfl,_,rfl,za _,rfl⟩
    ·intro vs y hg hd
     obtain⟨h2,h5,h8,h11,h14,_⟩:=hd
     replace h2:=h2 rfl
     replace h5:=h5 rfl
     replace h8:=h8 rfl
     replace h11:=h11 rfl
     replace h14:=h14 rfl
     dsimp only
     rw [show vs 2=_ from h2,show vs 5=_ from h5,show vs 8=_ from h8,show vs 11=_ from h11,show vs 14=_ from h14]
     go_wp2_with fail
     exact⟨rfl,_,rfl,za _,rfl⟩
    ·intro vs y hg hd
     dsimp only
     have zz:=Ag.new y 33 #[.int .i64 0,.int .i64 0,.int .i64 0,.int .i64 0,.int .i64 0]
     go_wp2_with fail
     exact⟨rfl,_,rfl,ze (za _) _,_,rfl,zz,hg.size⟩
   ·intro vs w2 hg hJ
    have h15:vs 15=.agg #[.int .i64 a,.int .i64 b,.int .i64 c,.int .i64 d,.int .i64 e]:=hJ 15 (by decide)
    obtain⟨q,hv,zq,hq⟩:∃ q,vs 16=.pointer (some ⟨q,0,none⟩)∧Ag w2 q [.int .i64 0,.int .i64 0,.int .i64 0,.int .i64 0,.int .i64 0]∧w1.heap.size≤q:=hJ 16 (by decide)
    simp only [actOf,tk1,tk0,dr1,dr0,Act.put,si1,st1,st0,Nat.reduceAdd]
    rw [hv,h15]
    clear hJ hv h15
    have z2:=z1.grew hg
    have hwq:w.heap.size≠q:=by have:=z1.lt;omega
    have CK:=hQ9 (fun W=>ja ⟨a,b,c,d,e⟩ W)
    unfold Cm.v at CK
    dsimp only at CK
    refine wpList_store_mid rfl 33 (.tmp 8) (.tmp 53) rfl q 0 #[.int .i64 a,.int .i64 b,.int .i64 c,.int .i64 d,.int .i64 e] rfl rfl (zq.thereN 5 rfl) hi5 (by simp [Value.oneCell']) ?_
    have zq3:=Ag.set (vs:=[.int .i64 a,.int .i64 b,.int .i64 c,.int .i64 d,.int .i64 e]) zq rfl
    have g3:=zg (o:=0) (b:=q) [.int .i64 a,.int .i64 b,.int .i64 c,.int .i64 d,.int .i64 e] hg hq
    have cq0:=zq3.cell 0 _ rfl
    have cq1:=zq3.cell 1 _ rfl
    have cq2:=zq3.cell 2 _ rfl
    have cq3:=zq3.cell 3 _ rfl
    have cq4:=zq3.cell 4 _ rfl
    simp only [Nat.zero_add]at cq0 cq1 cq2 cq3 cq4
    go_wp2_with fail
    clear cq0 cq1 cq2 cq3 cq4
    have gq:=zc gg g3
    have zr3:Ag _ w.heap.size [.int .i64 0,.int .i64 0,.int .i64 0,.int .i64 0,.int .i64 0]:=z2.other (b':=q) (o:=0) (vs:=[.int .i64 a,.int .i64 b,.int .i64 c,.int .i64 d,.int .i64 e]) hwq
    by_cases hok:okC ⟨a,b,c,d,e⟩
    ·rw [xF hok]at CK
     have HR:=hQ9 (HR3.out hok)
     clear HR2 HR3
     refine(CK.out _).mono ?_
     rintro x w4 ⟨rfl,g4⟩
     have zq4:=zq3.grew g4
     have zr4:=zr3.grew g4
     have gq4:=zc gq g4
     have cq0:=zq4.cell 0 _ rfl
     have cq1:=zq4.cell 1 _ rfl
     have cq2:=zq4.cell 2 _ rfl
     have cq3:=zq4.cell 3 _ rfl
     have cq4:=zq4.cell 4 _ rfl
     simp only [Nat.zero_add]at cq0 cq1 cq2 cq3 cq4
     go_wp2_with(first
      | (refine wpList_store_mid rfl 33 (.tmp 2) (.tmp 60) rfl w.heap.size 0 #[.int .i64 a,.int .i64 b,.int .i64 c,.int .i64 d,.int .i64 e] rfl rfl (zr4.thereN 5 rfl) hi5 (by simp [Value.oneCell']) ?_;have z5:=Ag.set (vs:=[.int .i64 a,.int .i64 b,.int .i64 c,.int .i64 d,.int .i64 e]) zr4 rfl;have g5:=zg (o:=0) (b:=w.heap.size) [.int .i64 a,.int .i64 b,.int .i64 c,.int .i64 d,.int .i64 e] gq4 (Nat.le_refl _)))
     rw [HR.out]
     have c0:=z5.cell 0 _ rfl
     have c1:=z5.cell 1 _ rfl
     have c2:=z5.cell 2 _ rfl
     have c3:=z5.cell 3 _ rfl
     have c4:=z5.cell 4 _ rfl
     simp only [Nat.zero_add]at c0 c1 c2 c3 c4
     exact bodyPost_ret (v:=.tuple #[Cm.v ⟨a,b,c,d,e⟩,.int .i64 0]) (by simp [results,Tryz.f80,go_sem,c0,c1,c2,c3,c4];try rfl) rfl ⟨rfl,g5⟩
    ·rw [yd hok]at CK
     have HR:=hQ9 (HR2.out hok)
     clear HR2 HR3
     refine(CK.out _).mono ?_
     rintro x w4 ⟨rfl,g4⟩
     have zr4:=zr3.grew g4
     have gq4:=zc gq g4
     go_wp2_with(first
      | (refine wpList_store_mid rfl 33 (.tmp 2) (.tmp 58) rfl w.heap.size 0 #[.int .i64 0,.int .i64 0,.int .i64 0,.int .i64 0,.int .i64 0] rfl rfl (zr4.thereN 5 rfl) hi5 (by simp [Value.oneCell']) ?_;have z5:=Ag.set (vs:=[.int .i64 0,.int .i64 0,.int .i64 0,.int .i64 0,.int .i64 0]) zr4 rfl;have g5:=zg (o:=0) (b:=w.heap.size) [.int .i64 0,.int .i64 0,.int .i64 0,.int .i64 0,.int .i64 0] gq4 (Nat.le_refl _)))
     rw [HR.out]
     have c0:=z5.cell 0 _ rfl
     have c1:=z5.cell 1 _ rfl
     have c2:=z5.cell 2 _ rfl
     have c3:=z5.cell 3 _ rfl
     have c4:=z5.cell 4 _ rfl
     simp only [Nat.zero_add]at c0 c1 c2 c3 c4
     exact bodyPost_ret (v:=.tuple #[Cm.zero.v,.int .i64 1]) (by simp [results,Tryz.f80,go_sem,c0,c1,c2,c3,c4];try rfl) rfl ⟨rfl,g5⟩
theorem zek (s:ByteArray) (hs:s.size≤1048576) (w:World) (hS:Std w) (hg8:5<w.heap.size) :
 Calls Tryz.prog 80 #[.string s] w fun x w'=>x=.returned (.tuple #[(parC s.data.toList).1.v,.int .i64 (parC s.data.toList).2])∧Grew w w':=by
 obtain⟨v,ev,hpn⟩:∃ v ev,pnums s.data.toList=(v,ev):=⟨_,_,rfl⟩
 by_cases hev:ev=0
 ·subst hev
  by_cases hlen:v.length=5
  ·match v,hlen with
   | [a,b,c,d,e],_=>exact zhv s hs a b c d e hpn _ (zf4 hpn) (zf5 hpn) (qK hpn) w hS hg8
  ·rw [za6 hpn hlen]
   exact zkd s hs v hpn hlen w hS hg8
 ·rw [za5 hpn hev]
  exact zkc s hs v ev hpn hev w hS hg8
theorem zke (s:ByteArray) (hs:s.size≤1048576) (v:List Int) (ev:Int) (hpn:pnums s.data.toList=(v,ev)) (hev:ev≠0) (w:World) :
 Calls Tryz.prog 87 #[.string s] w fun e w'=>e=.returned (.tuple #[Cm.zero.v,.int .i64 ev])∧Grew w w':=by
 have g0:=ze (za w) (.cells #[.int .i64 0,.int .i64 0,.int .i64 0,.int .i64 0,.int .i64 0] 26)
 have z0:=Ag.new w 26 #[.int .i64 0,.int .i64 0,.int .i64 0,.int .i64 0,.int .i64 0]
 have hi5:(Tryz.prog.info? 26).map (·.size)=some 5:=by kernel_rfl
 have hb:=zD w (.cells #[.int .i64 0,.int .i64 0,.int .i64 0,.int .i64 0,.int .i64 0] 26)
 have CP:=hQ9 (kz s hs (w.alloc (.cells #[.int .i64 0,.int .i64 0,.int .i64 0,.int .i64 0,.int .i64 0] 26)))
 rw [hpn]at CP
 dsimp only at CP
 have hev':(ev != 0)=true:=by simpa using hev
 clear hpn
 go_enter Tryz.func87,Tryz.ntmps87
 go_wp2_with(first
  | (go_at_call 171;refine(CP.out).mono ?_;rintro e w1 ⟨⟨v1,rfl,o1⟩,g1⟩;have z1:=z0.grew g1;have gg:=zc g0 g1)
  | (refine wpList_store_mid rfl 26 (.tmp 2) (.tmp 14) rfl w.heap.size 0 #[.int .i64 0,.int .i64 0,.int .i64 0,.int .i64 0,.int .i64 0] rfl rfl (z1.thereN 5 rfl) hi5 (by simp [Value.oneCell']) ?_;have z2:=Ag.set (vs:=[.int .i64 0,.int .i64 0,.int .i64 0,.int .i64 0,.int .i64 0]) z1 rfl;have g2:=zg (o:=0) (b:=w.heap.size) [.int .i64 0,.int .i64 0,.int .i64 0,.int .i64 0,.int .i64 0] gg (Nat.le_refl _)))
 have c0:=z2.cell 0 _ rfl
 have c1:=z2.cell 1 _ rfl
 have c2:=z2.cell 2 _ rfl
 have c3:=z2.cell 3 _ rfl
 have c4:=z2.cell 4 _ rfl
 simp only [Nat.zero_add]at c0 c1 c2 c3 c4
 exact bodyPost_ret (v:=.tuple #[Cm.zero.v,.int .i64 ev]) (by simp [results,Tryz.f87,go_sem,c0,c1,c2,c3,c4];try rfl) rfl ⟨rfl,g2⟩
theorem zkf (s:ByteArray) (hs:s.size≤1048576) (v:List Int) (hpn:pnums s.data.toList=(v,0)) (hlen:v.length≠5) (w:World) :
 Calls Tryz.prog 87 #[.string s] w fun e w'=>e=.returned (.tuple #[Cm.zero.v,.int .i64 2])∧Grew w w':=by
 have g0:=ze (za w) (.cells #[.int .i64 0,.int .i64 0,.int .i64 0,.int .i64 0,.int .i64 0] 26)
 have z0:=Ag.new w 26 #[.int .i64 0,.int .i64 0,.int .i64 0,.int .i64 0,.int .i64 0]
 have hi5:(Tryz.prog.info? 26).map (·.size)=some 5:=by kernel_rfl
 have hb:=zD w (.cells #[.int .i64 0,.int .i64 0,.int .i64 0,.int .i64 0,.int .i64 0] 26)
 have CP:=hQ9 (kz s hs (w.alloc (.cells #[.int .i64 0,.int .i64 0,.int .i64 0,.int .i64 0,.int .i64 0] 26)))
 rw [hpn]at CP
 dsimp only at CP
 have hne:((v.length:Int) != 5)=true:=by simpa using (by omega:¬(v.length:Int)=5)
 clear hpn hlen
 go_enter Tryz.func87,Tryz.ntmps87
 go_wp2_with(first
  | (go_at_call 171;refine(CP.out).mono ?_;rintro e w1 ⟨⟨v1,rfl,o1⟩,g1⟩;obtain⟨A1,k1,rfl,_,_,r1⟩:=zv o1;have z1:=z0.grew g1;have gg:=zc g0 g1)
  | (refine wpList_store_mid rfl 26 (.tmp 2) (.tmp 47) rfl w.heap.size 0 #[.int .i64 0,.int .i64 0,.int .i64 0,.int .i64 0,.int .i64 0] rfl rfl (z1.thereN 5 rfl) hi5 (by simp [Value.oneCell']) ?_;have z2:=Ag.set (vs:=[.int .i64 0,.int .i64 0,.int .i64 0,.int .i64 0,.int .i64 0]) z1 rfl;have g2:=zg (o:=0) (b:=w.heap.size) [.int .i64 0,.int .i64 0,.int .i64 0,.int .i64 0,.int .i64 0] gg (Nat.le_refl _)))
 have c0:=z2.cell 0 _ rfl
 have c1:=z2.cell 1 _ rfl
 have c2:=z2.cell 2 _ rfl
 have c3:=z2.cell 3 _ rfl
 have c4:=z2.cell 4 _ rfl
 simp only [Nat.zero_add]at c0 c1 c2 c3 c4
 exact bodyPost_ret (v:=.tuple #[Cm.zero.v,.int .i64 2]) (by simp [results,Tryz.f87,go_sem,c0,c1,c2,c3,c4];try rfl) rfl ⟨rfl,g2⟩
theorem zhw (s:ByteArray) (hs:s.size≤1048576) (a b c d e:Int) (hpn:pnums s.data.toList=([a,b,c,d,e],0)) (R:Cm × Int) (hR1:¬(smallC a∧smallC b∧smallC c∧smallC d)→R=(Cm.zero,2)) (hR2:(smallC a∧smallC b∧smallC c∧smallC d)→¬okC ⟨a,b,c,d,e⟩→R=(Cm.zero,1)) (hR3:(smallC a∧smallC b∧smallC c∧smallC d)→okC ⟨a,b,c,d,e⟩→R=(⟨a,b,c,d,e⟩,0)) (w:World) :
 Calls Tryz.prog 87 #[.string s] w fun x w'=>x=.returned (.tuple #[R.1.v,.int .i64 R.2])∧Grew w w':=by
 have g0:=ze (za w) (.cells #[.int .i64 0,.int .i64 0,.int .i64 0,.int .i64 0,.int .i64 0] 26)
 have z0:=Ag.new w 26 #[.int .i64 0,.int .i64 0,.int .i64 0,.int .i64 0,.int .i64 0]
 have hi5:(Tryz.prog.info? 26).map (·.size)=some 5:=by kernel_rfl
 have hb:=zD w (.cells #[.int .i64 0,.int .i64 0,.int .i64 0,.int .i64 0,.int .i64 0] 26)
 have CP:=hQ9 (kz s hs (w.alloc (.cells #[.int .i64 0,.int .i64 0,.int .i64 0,.int .i64 0,.int .i64 0] 26)))
 rw [hpn]at CP
 dsimp only at CP
 have HR1:=hQ9 hR1
 have HR2:=hQ9 hR2
 have HR3:=hQ9 hR3
 have S:=hQ9 (fun n W=>yS n (decide (smallC n)) rfl W)
 clear hpn hR1 hR2 hR3
 go_enter Tryz.func87,Tryz.ntmps87
 go_wp2_with fail
 refine(CP.out).mono ?_
 rintro e w1 ⟨⟨v1,rfl,o1⟩,g1⟩
 obtain⟨A1,k1,rfl,hlk,_,r1⟩:=zv o1
 obtain⟨ad,rfl,hlt,k_0⟩:=yJ r1 0 (by simp)
 have hk5:5≤k1:=hlk
 have hk4:(4:Int)≤(k1:Int):=by omega
 have z1:=z0.grew g1
 have gg:=zc g0 g1
 have kk:∀(j:Nat) (hj:j<5),w1.cell? (ad.add j)=some (.int .i64 ([a,b,c,d,e][j]'hj)):=fun j hj=>by obtain⟨ad',e1,_,h⟩:=yJ r1 j hj;injection e1 with e1;subst e1;exact h
 have k_1:w1.cell? ⟨ad.block,ad.off+1,none⟩=some (.int .i64 b):=by
  have h:w1.cell? (ad.add 1)=some (.int .i64 b):=kk 1 (by decide)
  simpa [Addr.add]using h
 have k_2:w1.cell? ⟨ad.block,ad.off+2,none⟩=some (.int .i64 c):=by
  have h:w1.cell? (ad.add 2)=some (.int .i64 c):=kk 2 (by decide)
  simpa [Addr.add]using h
 have k_3:w1.cell? ⟨ad.block,ad.off+3,none⟩=some (.int .i64 d):=by
  have h:w1.cell? (ad.add 3)=some (.int .i64 d):=kk 3 (by decide)
  simpa [Addr.add]using h
 have k_4:w1.cell? ⟨ad.block,ad.off+4,none⟩=some (.int .i64 e):=by
  have h:w1.cell? (ad.add 4)=some (.int .i64 e):=kk 4 (by decide)
  simpa [Addr.add]using h
 have k_0:w1.cell? ad=some (.int .i64 a):=by simpa [Addr.add]using k_0
 clear kk r1 o1
 by_cases s0:¬smallC a
 ·have d0:decide (smallC a)=false:=decide_eq_false s0
  have HR:=hQ9 (HR1.out (fun h=>s0 h.1))
  clear HR1 HR2 HR3 s0
  go_wp2_with(first
   | (go_at_call 150;refine(S.out _ _).mono ?_;rintro e w' ⟨rfl,hw⟩;have hw:=hw.symm;subst hw)
   | (refine wpList_store_mid rfl 26 (.tmp 2) (.tmp 47) rfl w.heap.size 0 #[.int .i64 0,.int .i64 0,.int .i64 0,.int .i64 0,.int .i64 0] rfl rfl (z1.thereN 5 rfl) hi5 (by simp [Value.oneCell']) ?_;have z2:=Ag.set (vs:=[.int .i64 0,.int .i64 0,.int .i64 0,.int .i64 0,.int .i64 0]) z1 rfl;have g2:=zg (o:=0) (b:=w.heap.size) [.int .i64 0,.int .i64 0,.int .i64 0,.int .i64 0,.int .i64 0] gg (Nat.le_refl _)))
  rw [HR.out]
  have c0:=z2.cell 0 _ rfl
  have c1:=z2.cell 1 _ rfl
  have c2:=z2.cell 2 _ rfl
  have c3:=z2.cell 3 _ rfl
  have c4:=z2.cell 4 _ rfl
  simp only [Nat.zero_add]at c0 c1 c2 c3 c4
  exact bodyPost_ret (v:=.tuple #[Cm.zero.v,.int .i64 2]) (by simp [results,Tryz.f87,go_sem,c0,c1,c2,c3,c4];try rfl) rfl ⟨rfl,g2⟩
 ·have d0:decide (smallC a)=true:=decide_eq_true (Classical.not_not.1 s0)
  by_cases s1:¬smallC b
  ·have d1:decide (smallC b)=false:=decide_eq_false s1
   have HR:=hQ9 (HR1.out (fun h=>s1 h.2.1))
   clear HR1 HR2 HR3 s1
   go_wp2_with(first
    | (go_at_call 150;refine(S.out _ _).mono ?_;rintro e w' ⟨rfl,hw⟩;have hw:=hw.symm;subst hw)
    | (refine wpList_store_mid rfl 26 (.tmp 2) (.tmp 47) rfl w.heap.size 0 #[.int .i64 0,.int .i64 0,.int .i64 0,.int .i64 0,.int .i64 0] rfl rfl (z1.thereN 5 rfl) hi5 (by simp [Value.oneCell']) ?_;have z2:=Ag.set (vs:=[.int .i64 0,.int .i64 0,.int .i64 0,.int .i64 0,.int .i64 0]) z1 rfl;have g2:=zg (o:=0) (b:=w.heap.size) [.int .i64 0,.int .i64 0,.int .i64 0,.int .i64 0,.int .i64 0] gg (Nat.le_refl _)))
   rw [HR.out]
   have c0:=z2.cell 0 _ rfl
   have c1:=z2.cell 1 _ rfl
   have c2:=z2.cell 2 _ rfl
   have c3:=z2.cell 3 _ rfl
   have c4:=z2.cell 4 _ rfl
   simp only [Nat.zero_add]at c0 c1 c2 c3 c4
   exact bodyPost_ret (v:=.tuple #[Cm.zero.v,.int .i64 2]) (by simp [results,Tryz.f87,go_sem,c0,c1,c2,c3,c4];try rfl) rfl ⟨rfl,g2⟩
  ·have d1:decide (smallC b)=true:=decide_eq_true (Classical.not_not.1 s1)
   by_cases s2:¬smallC c
   ·have d2:decide (smallC c)=false:=decide_eq_false s2
    have HR:=hQ9 (HR1.out (fun h=>s2 h.2.2.1))
    clear HR1 HR2 HR3 s2
    go_wp2_with(first
     | (go_at_call 150;refine(S.out _ _).mono ?_;rintro e w' ⟨rfl,hw⟩;have hw:=hw.symm;subst hw)
     | (refine wpList_store_mid rfl 26 (.tmp 2) (.tmp 47) rfl w.heap.size 0 #[.int .i64 0,.int .i64 0,.int .i64 0,.int .i64 0,.int .i64 0] rfl rfl (z1.thereN 5 rfl) hi5 (by simp [Value.oneCell']) ?_;have z2:=Ag.set (vs:=[.int .i64 0,.int .i64 0,.int .i64 0,.int .i64 0,.int .i64 0]) z1 rfl;have g2:=zg (o:=0) (b:=w.heap.size) [.int .i64 0,.int .i64 0,.int .i64 0,.int .i64 0,.int .i64 0] gg (Nat.le_refl _)))
    rw [HR.out]
    have c0:=z2.cell 0 _ rfl
    have c1:=z2.cell 1 _ rfl
    have c2:=z2.cell 2 _ rfl
    have c3:=z2.cell 3 _ rfl
    have c4:=z2.cell 4 _ rfl
    simp only [Nat.zero_add]at c0 c1 c2 c3 c4
    exact bodyPost_ret (v:=.tuple #[Cm.zero.v,.int .i64 2]) (by simp [results,Tryz.f87,go_sem,c0,c1,c2,c3,c4];try rfl) rfl ⟨rfl,g2⟩
   ·have d2:decide (smallC c)=true:=decide_eq_true (Classical.not_not.1 s2)
    by_cases s3:¬smallC d
    ·have d3:decide (smallC d)=false:=decide_eq_false s3
     have HR:=hQ9 (HR1.out (fun h=>s3 h.2.2.2))
     clear HR1 HR2 HR3 s3
     go_wp2_with(first
      | (go_at_call 150;refine(S.out _ _).mono ?_;rintro e w' ⟨rfl,hw⟩;have hw:=hw.symm;subst hw)
      | (refine wpList_store_mid rfl 26 (.tmp 2) (.tmp 47) rfl w.heap.size 0 #[.int .i64 0,.int .i64 0,.int .i64 0,.int .i64 0,.int .i64 0] rfl rfl (z1.thereN 5 rfl) hi5 (by simp [Value.oneCell']) ?_;have z2:=Ag.set (vs:=[.int .i64 0,.int .i64 0,.int .i64 0,.int .i64 0,.int .i64 0]) z1 rfl;have g2:=zg (o:=0) (b:=w.heap.size) [.int .i64 0,.int .i64 0,.int .i64 0,.int .i64 0,.int .i64 0] gg (Nat.le_refl _)))
     rw [HR.out]
     have c0:=z2.cell 0 _ rfl
     have c1:=z2.cell 1 _ rfl
     have c2:=z2.cell 2 _ rfl
     have c3:=z2.cell 3 _ rfl
     have c4:=z2.cell 4 _ rfl
     simp only [Nat.zero_add]at c0 c1 c2 c3 c4
     exact bodyPost_ret (v:=.tuple #[Cm.zero.v,.int .i64 2]) (by simp [results,Tryz.f87,go_sem,c0,c1,c2,c3,c4];try rfl) rfl ⟨rfl,g2⟩
    ·have d3:decide (smallC d)=true:=decide_eq_true (Classical.not_not.1 s3)
     have hall:smallC a∧smallC b∧smallC c∧smallC d:=⟨Classical.not_not.1 s0,Classical.not_not.1 s1,Classical.not_not.1 s2,Classical.not_not.1 s3⟩
     have HR2:=hQ9 (HR2.out hall)
     have HR3:=hQ9 (HR3.out hall)
     clear hall HR1 s0 s1 s2 s3
     go_wp2_with(go_at_call 150;refine(S.out _ _).mono ?_;rintro e w' ⟨rfl,hw⟩;have hw:=hw.symm;subst hw)
     clear d0 d1 d2 d3
     refine zH 17 (fun i=>match i with
      | 0=>fun v _=>v=.slice (some ad) 5 k1
      | 1=>fun v _=>v=.pointer (some ad)
      | 2=>fun v _=>v=.int .i64 a
      | 3=>fun v _=>v=.slice (some ad) 5 k1
      | 4=>fun v _=>v=.pointer (some ⟨ad.block,ad.off+1,none⟩)
      | 5=>fun v _=>v=.int .i64 b
      | 6=>fun v _=>v=.slice (some ad) 5 k1
      | 7=>fun v _=>v=.pointer (some ⟨ad.block,ad.off+2,none⟩)
      | 8=>fun v _=>v=.int .i64 c
      | 9=>fun v _=>v=.slice (some ad) 5 k1
      | 10=>fun v _=>v=.pointer (some ⟨ad.block,ad.off+3,none⟩)
      | 11=>fun v _=>v=.int .i64 d
      | 12=>fun v _=>v=.slice (some ad) 5 k1
      | 13=>fun v _=>v=.pointer (some ⟨ad.block,ad.off+4,none⟩)
      | 14=>fun v _=>v=.int .i64 e
      | 15=>fun v _=>v=.agg #[.int .i64 a,.int .i64 b,.int .i64 c,.int .i64 d,.int .i64 e]
      | 16=>fun v w=>∃ q,v=.pointer (some ⟨q,0,none⟩)∧Ag w q [.int .i64 0,.int .i64 0,.int .i64 0,.int .i64 0,.int .i64 0]∧w1.heap.size≤q
      | _=>fun _ _=>True) (by kernel_rfl) (by kernel_rfl) ?_ ?_ ?_
     ·intro i v x y h hg
      match i,h with
      | 0,h | 1,h | 2,h | 3,h | 4,h | 5,h | 6,h | 7,h | 8,h | 9,h | 10,h | 11,h | 12,h | 13,h | 14,h | 15,h=>exact h
      | 16,⟨q,h1,h2,h3⟩=>exact⟨q,h1,h2.grew hg,h3⟩
      | n+17,_=>trivial
     ·simp only [actOf,tk1,tk0,dr1,dr0,Act.put,si1,st1,st0,Nat.reduceAdd]
      refine⟨?_,?_,?_,?_,?_,?_,?_,?_,?_,?_,?_,?_,?_,?_,?_,?_,?_,trivial⟩
      ·intro vs y hg hd
       dsimp only
       go_wp2_with fail
       exact⟨rfl,_,rfl,za _,rfl⟩
      ·intro vs y hg hd
       obtain⟨h0,_⟩:=hd
       replace h0:=h0 rfl
       dsimp only
       rw [show vs 0=_ from h0]
       go_wp2_with fail
       exact⟨rfl,_,rfl,za _,rfl⟩
      ·intro vs y hg hd
       obtain⟨h1,_⟩:=hd
       replace h1:=h1 rfl
       dsimp only
       rw [show vs 1=_ from h1]
       have hc:=(hg.cell (p:=ad) hlt).trans k_0
       go_wp2_with fail
       exact⟨rfl,_,rfl,za _,rfl⟩
      ·intro vs y hg hd
       dsimp only
       go_wp2_with fail
       exact⟨rfl,_,rfl,za _,rfl⟩
      ·intro vs y hg hd
       obtain⟨h3,_⟩:=hd
       replace h3:=h3 rfl
       dsimp only
       rw [show vs 3=_ from h3]
       go_wp2_with fail
       exact⟨rfl,_,rfl,za _,rfl⟩
      ·intro vs y hg hd
       obtain⟨h4,_⟩:=hd
       replace h4:=h4 rfl
       dsimp only
       rw [show vs 4=_ from h4]
       have hc:=(hg.cell (p:=⟨ad.block,ad.off+1,none⟩) hlt).trans k_1
       go_wp2_with fail
       exact⟨rfl,_,rfl,za _,rfl⟩
      ·intro vs y hg hd
       dsimp only
       go_wp2_with fail
       exact⟨rfl,_,rfl,za _,rfl⟩
      ·intro vs y hg hd
       obtain⟨h6,_⟩:=hd
       replace h6:=h6 rfl
       dsimp only
       rw [show vs 6=_ from h6]
       go_wp2_with fail
       exact⟨rfl,_,rfl,za _,rfl⟩
      ·intro vs y hg hd
       obtain⟨h7,_⟩:=hd
       replace h7:=h7 rfl
       dsimp only
       rw [show vs 7=_ from h7]
       have hc:=(hg.cell (p:=⟨ad.block,ad.off+2,none⟩) hlt).trans k_2
       go_wp2_with fail
       exact⟨rfl,_,rfl,za _,rfl⟩
      ·intro vs y hg hd
       dsimp only
       go_wp2_with fail
       exact⟨rfl,_,rfl,za _,rfl⟩
      ·intro vs y hg hd
       obtain⟨h9,_⟩:=hd
       replace h9:=h9 rfl
       dsimp only
       rw [show vs 9=_ from h9]
       go_wp2_with fail
       exact⟨rfl,_,rfl,za _,rfl⟩
      ·intro vs y hg hd
       obtain⟨h10,_⟩:=hd
       replace h10:=h10 rfl
       dsimp only
       rw [show vs 10=_ from h10]
       have hc:=(hg.cell (p:=⟨ad.block,ad.off+3,none⟩) hlt).trans k_3
       go_wp2_with fail
       exact⟨rfl,_,rfl,za _,rfl⟩
      ·intro vs y hg hd
       dsimp only
       go_wp2_with fail
       exact⟨rfl,_,rfl,za _,rfl⟩
      ·intro vs y hg hd
       obtain⟨h12,_⟩:=hd
       replace h12:=h12 rfl
       dsimp only
       rw [show vs 12=_ from h12]
       go_wp2_with fail
       exact⟨rfl,_,rfl,za _,rfl⟩
      ·intro vs y hg hd
       obtain⟨h13,_⟩:=hd
       replace h13:=h13 rfl
       dsimp only
       rw [show vs 13=_ from h13]
       have hc:=(hg.cell (p:=⟨ad.block,ad.off+4,none⟩) hlt).trans k_4
       go_wp2_with fail
       exact⟨rfl,_,rfl,za _,rfl⟩
      ·intro vs y hg hd
       obtain⟨h2,h5,h8,h11,h14,_⟩:=hd
       replace h2:=h2 rfl
       replace h5:=h5 rfl
       replace h8:=h8 rfl
       replace h11:=h11 rfl
       replace h14:=h14 rfl
       dsimp only
       rw [show vs 2=_ from h2,show vs 5=_ from h5,show vs 8=_ from h8,show vs 11=_ from h11,show vs 14=_ from h14]
       go_wp2_with fail
       exact⟨rfl,_,rfl,za _,rfl⟩
      ·intro vs y hg hd
       dsimp only
       have zz:=Ag.new y 26 #[.int .i64 0,.int .i64 0,.int .i64 0,.int .i64 0,.int .i64 0]
       go_wp2_with fail
       exact⟨rfl,_,rfl,ze (za _) _,_,rfl,zz,hg.size⟩
     ·intro vs w2 hg hJ
      have h15:vs 15=.agg #[.int .i64 a,.int .i64 b,.int .i64 c,.int .i64 d,.int .i64 e]:=hJ 15 (by decide)
      obtain⟨q,hv,zq,hq⟩:∃ q,vs 16=.pointer (some ⟨q,0,none⟩)∧Ag w2 q [.int .i64 0,.int .i64 0,.int .i64 0,.int .i64 0,.int .i64 0]∧w1.heap.size≤q:=hJ 16 (by decide)
      simp only [actOf,tk1,tk0,dr1,dr0,Act.put,si1,st1,st0,Nat.reduceAdd]
      rw [hv,h15]
      clear hJ hv h15
      have z2:=z1.grew hg
      have hwq:w.heap.size≠q:=by have:=z1.lt;omega
      have CK:=hQ9 (fun W=>zb7 ⟨a,b,c,d,e⟩ W)
      unfold Cm.v at CK
      dsimp only at CK
      refine wpList_store_mid rfl 26 (.tmp 6) (.tmp 63) rfl q 0 #[.int .i64 a,.int .i64 b,.int .i64 c,.int .i64 d,.int .i64 e] rfl rfl (zq.thereN 5 rfl) hi5 (by simp [Value.oneCell']) ?_
      have zq3:=Ag.set (vs:=[.int .i64 a,.int .i64 b,.int .i64 c,.int .i64 d,.int .i64 e]) zq rfl
      have g3:=zg (o:=0) (b:=q) [.int .i64 a,.int .i64 b,.int .i64 c,.int .i64 d,.int .i64 e] hg hq
      have cq0:=zq3.cell 0 _ rfl
      have cq1:=zq3.cell 1 _ rfl
      have cq2:=zq3.cell 2 _ rfl
      have cq3:=zq3.cell 3 _ rfl
      have cq4:=zq3.cell 4 _ rfl
      simp only [Nat.zero_add]at cq0 cq1 cq2 cq3 cq4
      go_wp2_with fail
      clear cq0 cq1 cq2 cq3 cq4
      have gq:=zc gg g3
      have zr3:Ag _ w.heap.size [.int .i64 0,.int .i64 0,.int .i64 0,.int .i64 0,.int .i64 0]:=z2.other (b':=q) (o:=0) (vs:=[.int .i64 a,.int .i64 b,.int .i64 c,.int .i64 d,.int .i64 e]) hwq
      by_cases hok:okC ⟨a,b,c,d,e⟩
      ·rw [xF hok]at CK
       have HR:=hQ9 (HR3.out hok)
       clear HR2 HR3
       refine(CK.out _).mono ?_
       rintro x w4 ⟨rfl,g4⟩
       have zq4:=zq3.grew g4
       have zr4:=zr3.grew g4
       have gq4:=zc gq g4
       have cq0:=zq4.cell 0 _ rfl
       have cq1:=zq4.cell 1 _ rfl
       have cq2:=zq4.cell 2 _ rfl
       have cq3:=zq4.cell 3 _ rfl
       have cq4:=zq4.cell 4 _ rfl
       simp only [Nat.zero_add]at cq0 cq1 cq2 cq3 cq4
       go_wp2_with(first
        | (refine wpList_store_mid rfl 26 (.tmp 2) (.tmp 70) rfl w.heap.size 0 #[.int .i64 a,.int .i64 b,.int .i64 c,.int .i64 d,.int .i64 e] rfl rfl (zr4.thereN 5 rfl) hi5 (by simp [Value.oneCell']) ?_;have z5:=Ag.set (vs:=[.int .i64 a,.int .i64 b,.int .i64 c,.int .i64 d,.int .i64 e]) zr4 rfl;have g5:=zg (o:=0) (b:=w.heap.size) [.int .i64 a,.int .i64 b,.int .i64 c,.int .i64 d,.int .i64 e] gq4 (Nat.le_refl _)))
       rw [HR.out]
       have c0:=z5.cell 0 _ rfl
       have c1:=z5.cell 1 _ rfl
       have c2:=z5.cell 2 _ rfl
       have c3:=z5.cell 3 _ rfl
       have c4:=z5.cell 4 _ rfl
       simp only [Nat.zero_add]at c0 c1 c2 c3 c4
       exact bodyPost_ret (v:=.tuple #[Cm.v ⟨a,b,c,d,e⟩,.int .i64 0]) (by simp [results,Tryz.f87,go_sem,c0,c1,c2,c3,c4];try rfl) rfl ⟨rfl,g5⟩
      ·rw [yd hok]at CK
       have HR:=hQ9 (HR2.out hok)
       clear HR2 HR3
       refine(CK.out _).mono ?_
       rintro x w4 ⟨rfl,g4⟩
       have zr4:=zr3.grew g4
       have gq4:=zc gq g4
       go_wp2_with(first
        | (refine wpList_store_mid rfl 26 (.tmp 2) (.tmp 68) rfl w.heap.size 0 #[.int .i64 0,.int .i64 0,.int .i64 0,.int .i64 0,.int .i64 0] rfl rfl (zr4.thereN 5 rfl) hi5 (by simp [Value.oneCell']) ?_;have z5:=Ag.set (vs:=[.int .i64 0,.int .i64 0,.int .i64 0,.int .i64 0,.int .i64 0]) zr4 rfl;have g5:=zg (o:=0) (b:=w.heap.size) [.int .i64 0,.int .i64 0,.int .i64 0,.int .i64 0,.int .i64 0] gq4 (Nat.le_refl _)))
       rw [HR.out]
       have c0:=z5.cell 0 _ rfl
       have c1:=z5.cell 1 _ rfl
       have c2:=z5.cell 2 _ rfl
       have c3:=z5.cell 3 _ rfl
       have c4:=z5.cell 4 _ rfl
       simp only [Nat.zero_add]at c0 c1 c2 c3 c4
       exact bodyPost_ret (v:=.tuple #[Cm.zero.v,.int .i64 1]) (by simp [results,Tryz.f87,go_sem,c0,c1,c2,c3,c4];try rfl) rfl ⟨rfl,g5⟩
theorem zck (s:ByteArray) (hs:s.size≤1048576) (w:World) :
 Calls Tryz.prog 87 #[.string s] w fun x w'=>x=.returned (.tuple #[(parC s.data.toList).1.v,.int .i64 (parC s.data.toList).2])∧Grew w w':=by
 obtain⟨v,ev,hpn⟩:∃ v ev,pnums s.data.toList=(v,ev):=⟨_,_,rfl⟩
 by_cases hev:ev=0
 ·subst hev
  by_cases hlen:v.length=5
  ·match v,hlen with
   | [a,b,c,d,e],_=>exact zhw s hs a b c d e hpn _ (zf4 hpn) (zf5 hpn) (qK hpn) w
  ·rw [za6 hpn hlen]
   exact zkf s hs v hpn hlen w
 ·rw [za5 hpn hev]
  exact zke s hs v ev hpn hev w
theorem y8 {P:Program} {W:World} {d:Nat} {xs ys:Array Value} {f:Field} {fs:List Field} {a b:Int} {k:IntKind} (hn:(f.name ≠ "_")=True) (ha:(part f.type xs f.offset).run P W=.ok (.int k a) W) (hb:(part f.type ys f.offset).run P W=.ok (.int k b) W) (hu:P.underlying f.type=some (.int k)) :
 (Op.eqFields (d+1) xs ys (f::fs)).run P W=if a=b then (Op.eqFields (d+1) xs ys fs).run P W else .ok false W:=by
 rw [Op.eqFields,if_pos (of_eq_true hn)]
 simp only [Sem.run_bind,ha,hb,Result.andThen_ok,run_equalIn_int W d f.type k k a b hu]
 by_cases h:a=b
 ·subst h;simp
 ·have h':(a==b)=false:=by simpa using h
  simp [h',h]
theorem cm_eq (a b:Cm) (W:World):(Op.equalIn 10000 33 a.v b.v).run Tryz.prog W=.ok (decide (a=b)) W:=by
 obtain⟨a0,a1,a2,a3,a4⟩:=a
 obtain⟨b0,b1,b2,b3,b4⟩:=b
 unfold Cm.v
 rw [run_equalIn_struct W 9999 33 _ _ (by kernel_rfl) (by kernel_rfl)]
 simp only [Program.fieldsOf,Tryz.underlying33]
 rw [y8 (k:=.i64) (a:=a0) (b:=b0) (by simp) (by kernel_rfl) (by kernel_rfl) (by kernel_rfl),y8 (k:=.i64) (a:=a1) (b:=b1) (by simp) (by kernel_rfl) (by kernel_rfl) (by kernel_rfl),y8 (k:=.i64) (a:=a2) (b:=b2) (by simp) (by kernel_rfl) (by kernel_rfl) (by kernel_rfl),y8 (k:=.i64) (a:=a3) (b:=b3) (by simp) (by kernel_rfl) (by kernel_rfl) (by kernel_rfl),y8 (k:=.i64) (a:=a4) (b:=b4) (by simp) (by kernel_rfl) (by kernel_rfl) (by kernel_rfl)]
 simp only [Op.eqFields,Sem.run_pure,Cm.mk.injEq]
 by_cases h0:a0=b0<;>by_cases h1:a1=b1<;>by_cases h2:a2=b2<;>by_cases h3:a3=b3<;>by_cases h4:a4=b4<;>simp [h0,h1,h2,h3,h4]
theorem cof_ok (c:Cm) (w:World):Calls Tryz.prog 108 #[c.v] w fun e w'=>e=.returned c.v∧Grew w w':=by
 obtain⟨a,b,c,d,e⟩:=c
 have z0:=Ag.new (w.alloc (.cells #[.int .i64 a,.int .i64 b,.int .i64 c,.int .i64 d,.int .i64 e] 33)) 26 #[.int .i64 0,.int .i64 0,.int .i64 0,.int .i64 0,.int .i64 0]
 have g0:=ze (ze (za w) (.cells #[.int .i64 a,.int .i64 b,.int .i64 c,.int .i64 d,.int .i64 e] 33)) (.cells #[.int .i64 0,.int .i64 0,.int .i64 0,.int .i64 0,.int .i64 0] 26)
 have hi5:(Tryz.prog.info? 26).map (·.size)=some 5:=by kernel_rfl
 rw [zD]at z0
 unfold Cm.v
 go_enter Tryz.func108,Tryz.ntmps108
 go_wp2_with(refine wpList_store_mid rfl 26 (.tmp 2) (.tmp 13) rfl (w.heap.size+1) 0 #[.int .i64 a,.int .i64 b,.int .i64 c,.int .i64 d,.int .i64 e] rfl rfl (z0.thereN 5 rfl) hi5 (by simp [Value.oneCell']) ?_;have z1:=Ag.set (vs:=[.int .i64 a,.int .i64 b,.int .i64 c,.int .i64 d,.int .i64 e]) z0 rfl;have g1:=zg (o:=0) (b:=w.heap.size+1) [.int .i64 a,.int .i64 b,.int .i64 c,.int .i64 d,.int .i64 e] g0 (by omega))
 have c0:=z1.cell 0 _ rfl
 have c1:=z1.cell 1 _ rfl
 have c2:=z1.cell 2 _ rfl
 have c3:=z1.cell 3 _ rfl
 have c4:=z1.cell 4 _ rfl
 simp only [Nat.zero_add]at c0 c1 c2 c3 c4
 exact bodyPost_ret (v:=Cm.v ⟨a,b,c,d,e⟩) (by simp [results,Tryz.f108,go_sem,c0,c1,c2,c3,c4];try rfl) rfl ⟨rfl,g1⟩
end Go.Proofs.YtpppegnojmnicaaGreatDoor
