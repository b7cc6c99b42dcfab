/- The reference's ParseCert refused ahead of the stamps, and of any text (mkgbs.py). -/
import Derived.Test.YtpppegnojmnicaaGreatDoorTzz
import Derived.Test.YtpppegnojmnicaaGreatDoorTbp
import Derived.Test.YtpppegnojmnicaaGreatDoorTbm
import Derived.Test.YtpppegnojmnicaaGreatDoorTbn
set_option maxHeartbeats 4000000
set_option maxRecDepth 100000
set_option linter.unusedSimpArgs false
set_option linter.unusedVariables false
namespace Go.Proofs.YtpppegnojmnicaaGreatDoor
open Go.RowKit
theorem zg1 {s:ByteArray} (h:splitF s.data.toList=none) (hs:s.size≤100000000) (w:World) :
 Calls Tryz.prog 86 #[.string s] w fun e w'=>e=.returned (.tuple #[.slice none 0 0,.int .i64 2])∧Grew w w' :=
 (ku s hs w).mono fun e w' ⟨hh,hg⟩=>by
  refine⟨?_,hg⟩
  rcases hh with ⟨_,h1⟩ | ⟨l',h1,_⟩
  ·exact h1
  ·rw [h]at h1;cases h1
theorem qi (tj:ByteArray) (ev:Int) (hev:ev≠0) (CS0:∀ W,Calls Tryz.prog 86 #[.string tj] W fun e w'=>e=.returned (.tuple #[.slice none 0 0,.int .i64 ev])∧Grew W w') (w:World) :
 Calls Tryz.prog 21 #[.string tj] w fun e w'=>e=.returned (.tuple #[.agg (ctC Cm.zero none 0 0),.int .i64 ev])∧Grew w w':=by
 have hut:=Tryz.underlying29
 have z0:=Ag.new w 29 (zS6:Array Value)
 have G0:=ze (za w) (.cells (zS6:Array Value) 29)
 have hbz:=jW
 have bz:∀ W,(Instr.build 29 #[]).run Tryz.prog W=.ok (.agg (#[.int .i64 0,.int .i64 0,.int .i64 0,.int .i64 0,.int .i64 0,.slice none 0 0]:Array Value)) W:=fun W=>run_build W 29 _ _ hbz
 have CS:=hQ9 CS0
 have e9:(ev != 0)=true:=by simpa using hev
 clear hbz CS0
 go_enter Tryz.func21,Tryz.ntmps21
 go_wp2_with fail
 refine(CS.out _).mono ?_
 rintro e w1 ⟨rfl,g1⟩
 have G1:=zc G0 g1
 have z1:=z0.grew g1
 clear CS g1 z0 G0
 have HTH:Hid (w1.there w.heap.size 0 (zS6:Array Value).size):=hQ9 (z1.thereN 6 rfl)
 have HSI:Hid ((Tryz.prog.info? 29).map (·.size)=some (zS6:Array Value).size):=hQ9 ye
 have HON:Hid ((#[.int .i64 0,.int .i64 0,.int .i64 0,.int .i64 0,.int .i64 0,.slice none 0 0]:Array Value).all (·.oneCell')=true):=hQ9 (by simp [Value.oneCell'])
 have zf:=Ag.set (vs:=(zS6:Array Value).toList) z1 rfl
 have Gf:=zg (o:=0) (b:=w.heap.size) (zS6:Array Value).toList G1 (Nat.le_refl _)
 go_wp2_with(with_reducible refine wpList_store_mid rfl 29 (.tmp 2) (.tmp 18) rfl w.heap.size 0 (zS6:Array Value) rfl rfl HTH.out HSI.out HON.out ?_)
 exact bodyPost_ret (zh Tryz.results21 _ _ w.heap.size _ _ _ rfl rfl zf hut rfl ye) rfl ⟨rfl,Gf⟩
theorem zdl (tj:ByteArray) (hz:tj.size≤100000000) (hsp:splitF tj.data.toList=some []) (w:World) :
 Calls Tryz.prog 21 #[.string tj] w fun e w'=>e=.returned (.tuple #[.agg (ctC Cm.zero none 0 0),.int .i64 2])∧Grew w w':=by
 have hut:=Tryz.underlying29
 have z0:=Ag.new w 29 (zS6:Array Value)
 have G0:=ze (za w) (.cells (zS6:Array Value) 29)
 have hbz:=jW
 have bz:∀ W,(Instr.build 29 #[]).run Tryz.prog W=.ok (.agg (#[.int .i64 0,.int .i64 0,.int .i64 0,.int .i64 0,.int .i64 0,.slice none 0 0]:Array Value)) W:=fun W=>run_build W 29 _ _ hbz
 have CS:=hQ9 (fun W=>y9 hsp (by simp) hz W)
 clear hbz
 go_enter Tryz.func21,Tryz.ntmps21
 go_wp2_with fail
 refine(CS.out _).mono ?_
 rintro e w1 ⟨⟨v,rfl,hrow⟩,g1⟩
 obtain⟨A,cA,rfl,hrd,hcA,hab⟩:=xK hrow
 have G1:=zc G0 g1
 have z1:=z0.grew g1
 clear CS g1 z0 G0 hrow hrd hcA hab
 have HTH:Hid (w1.there w.heap.size 0 (zS6:Array Value).size):=hQ9 (z1.thereN 6 rfl)
 have HSI:Hid ((Tryz.prog.info? 29).map (·.size)=some (zS6:Array Value).size):=hQ9 ye
 have HON:Hid ((#[.int .i64 0,.int .i64 0,.int .i64 0,.int .i64 0,.int .i64 0,.slice none 0 0]:Array Value).all (·.oneCell')=true):=hQ9 (by simp [Value.oneCell'])
 have zf:=Ag.set (vs:=(zS6:Array Value).toList) z1 rfl
 have Gf:=zg (o:=0) (b:=w.heap.size) (zS6:Array Value).toList G1 (Nat.le_refl _)
 go_wp2_with(with_reducible refine wpList_store_mid rfl 29 (.tmp 2) (.tmp 23) rfl w.heap.size 0 (zS6:Array Value) rfl rfl HTH.out HSI.out HON.out ?_)
 exact bodyPost_ret (zh Tryz.results21 _ _ w.heap.size _ _ _ rfl rfl zf hut rfl ye) rfl ⟨rfl,Gf⟩
theorem zdm (tj:ByteArray) (hz:tj.size≤1000000) (x:List UInt8) (r:List (List UInt8)) (hsp:splitF tj.data.toList=some (x::r)) (hl:(x::r).length≤4096) (hfx:x.length≤1000000) (c:Cm) (ev:Int) (hev:ev≠0) (hx:parC x=(c,ev)) (w:World) (hS:Std w) (hg8:5<w.heap.size) :
 Calls Tryz.prog 21 #[.string tj] w fun e w'=>e=.returned (.tuple #[.agg (ctC Cm.zero none 0 0),.int .i64 ev])∧Grew w w':=by
 have hut:=Tryz.underlying29
 have z0:=Ag.new w 29 (zS6:Array Value)
 have G0:=ze (za w) (.cells (zS6:Array Value) 29)
 have hbz:=jW
 have bz:∀ W,(Instr.build 29 #[]).run Tryz.prog W=.ok (.agg (#[.int .i64 0,.int .i64 0,.int .i64 0,.int .i64 0,.int .i64 0,.slice none 0 0]:Array Value)) W:=fun W=>run_build W 29 _ _ hbz
 have huc:=Tryz.underlying26
 have CS:=hQ9 (fun W=>y9 hsp hl (by omega) W)
 have CP:=hQ9 (fun W=>zck ⟨x.toArray⟩ (by simp [ByteArray.size];omega) W)
 rw [show(⟨x.toArray⟩:ByteArray).data.toList=x from by simp,hx]at CP
 have HS:=hQ9 hS
 have H8:=hQ9 hg8
 have e9:(ev != 0)=true:=by simpa using hev
 clear hbz hsp hfx hS hg8 hx
 rw [show c.v=.agg c.cells from rfl]at CP
 go_enter Tryz.func21,Tryz.ntmps21
 go_wp2_with fail
 refine(CS.out _).mono ?_
 rintro e w1 ⟨⟨v,rfl,hrow⟩,g1⟩
 obtain⟨A,cA,rfl,hrd,hcA,hab⟩:=xK hrow
 have G1:=zc G0 g1
 have z1:=z0.grew g1
 have hlen1:(x::r).length=r.length+1:=by simp
 rw [hlen1]at hcA ⊢
 obtain⟨ad,rfl,hlt0,hc0⟩:=hrd 0 (by simp [strL,txt])
 have hx0:w1.cell? ad=some (.string ⟨x.toArray⟩):=by
  have:=hc0
  rw [show ad.add 0=ad from by simp [Addr.add]]at this
  rw [this];simp [strL,txt]
 have hl0:((r.length+1:Nat):Int)≠0:=by omega
 have e0:(((r.length+1:Nat):Int)==0)=false:=beq_false_of_ne hl0
 have hl1:(0:Int)<((r.length+1:Nat):Int):=by omega
 clear CS hrow g1 z0 G0 hc0 hl0 hab
 go_wp2_with fail
 refine(CP.out w1).mono ?_
 rintro e w2 ⟨rfl,g2⟩
 obtain⟨w3,hw3,ht3,g3,z3⟩:=yz w2 26 #[.int .i64 0,.int .i64 0,.int .i64 0,.int .i64 0,.int .i64 0] c.cells rfl
 have HW3:=hQ9 hw3
 have HT3:=hQ9 ht3
 have SI3:Hid ((Tryz.prog.info? 26).map (·.size)=some c.cells.size):=hQ9 (show _=some 5 by kernel_rfl)
 have HO3:Hid (c.cells.all (·.oneCell')=true):=hQ9 (by simp [Cm.cells,Value.oneCell'])
 have G3:=zc G1 (zc g2 g3)
 have z9:=z1.grew (zc g2 g3)
 clear hw3 ht3 hrd z1 g2 g3 CP hx0 hl1 z3 hlen1 e0
 have HTH:Hid (w3.there w.heap.size 0 (zS6:Array Value).size):=hQ9 (z9.thereN 6 rfl)
 have HSI:Hid ((Tryz.prog.info? 29).map (·.size)=some (zS6:Array Value).size):=hQ9 ye
 have HON:Hid ((#[.int .i64 0,.int .i64 0,.int .i64 0,.int .i64 0,.int .i64 0,.slice none 0 0]:Array Value).all (·.oneCell')=true):=hQ9 (by simp [Value.oneCell'])
 have zf:=Ag.set (vs:=(zS6:Array Value).toList) z9 rfl
 have Gf:=zg (o:=0) (b:=w.heap.size) (zS6:Array Value).toList G3 (Nat.le_refl _)
 go_wp2_with(first
  | (with_reducible refine wpList_store_mid rfl 26 (.tmp 6) (.tmp 29) rfl w2.heap.size 0 c.cells rfl rfl HT3.out SI3.out HO3.out ?_;rw [HW3.out])
  | (with_reducible refine wpList_store_mid rfl 29 (.tmp 2) (.tmp 33) rfl w.heap.size 0 (zS6:Array Value) rfl rfl HTH.out HSI.out HON.out ?_))
 exact bodyPost_ret (zh Tryz.results21 _ _ w.heap.size _ _ _ rfl rfl zf hut rfl ye) rfl ⟨rfl,Gf⟩
theorem zdn (tj:ByteArray) (hz:tj.size≤1000000) (w:World) (hS:Std w) (hg8:5<w.heap.size) :
 Calls Tryz.prog 21 #[.string tj] w (PaRes tj.data.toList w):=by
 cases hsp:splitF tj.data.toList with
 | none=>exact(qi tj 2 (by decide) (fun W=>zg1 hsp (by omega) W) w).mono fun e w' ⟨h,g⟩=>.ofErr (by simp [parCt,hsp]) h g
 | some l =>
  by_cases hl:4096<l.length
  ·have hko:∀ W,Calls Tryz.prog 86 #[.string tj] W fun e w'=>e=.returned (.tuple #[.slice none 0 0,.int .i64 4])∧Grew W w':=fun W =>
    (ku tj (by omega) W).mono fun e w' ⟨hh,hg⟩=>by
     refine⟨?_,hg⟩
     rcases hh with ⟨h1,_⟩ | ⟨l',h1,h2⟩
     ·rw [hsp]at h1;cases h1
     ·rw [hsp]at h1
      injection h1 with h1
      subst h1
      rcases h2 with ⟨_,h3⟩ | ⟨h3,_⟩
      ·exact h3
      ·omega
   exact(qi tj 4 (by decide) hko w).mono fun e w' ⟨h,g⟩=>.ofErr (by simp [parCt,hsp,hl]) h g
  ·cases l with
   | nil=>exact(zdl tj (by omega) hsp w).mono fun e w' ⟨h,g⟩=>.ofErr (by simp [parCt,hsp]) h g
   | cons x r =>
    have hfl:∀ f∈x::r,f.length≤1000000:=fun f hf=>by
     have:=zeq hsp f hf
     have h2:tj.data.toList.length=tj.size:=by simp
     omega
    obtain⟨c,ev,hx⟩:∃ c ev,parC x=(c,ev):=⟨_,_,rfl⟩
    by_cases hev:ev=0
    ·subst hev
     refine(zag tj hz x r hsp (by omega) hfl c hx w hS hg8).mono fun e w' h=>?_
     refine⟨fun c2 r2 h2=>?_,fun ev h2=>?_,h.gr⟩
     ·unfold parCt at h2
      rw [hsp]at h2
      simp only [hl,hx,if_false,ne_eq,not_true_eq_false]at h2
      cases hb:badF r with
      | none =>
       rw [hb]at h2
       injection h2 with h2
       injection h2 with h3 h4
       subst h3
       subst h4
       exact h.yes hb
      | some f=>rw [hb]at h2;cases h2
     ·unfold parCt at h2
      rw [hsp]at h2
      simp only [hl,hx,if_false,ne_eq,not_true_eq_false]at h2
      cases hb:badF r with
      | none=>rw [hb]at h2;cases h2
      | some f =>
       rw [hb]at h2
       injection h2 with h2
       rw [←h2]
       exact h.no f hb
    ·exact(zdm tj hz x r hsp (by omega) (hfl x (by simp)) c ev hev hx w hS hg8).mono fun e w' ⟨h,g⟩=>.ofErr (by unfold parCt;rw [hsp];simp only [hl,hx,if_false,ne_eq,hev,not_false_eq_true,if_true]) h g
theorem znc {s:List UInt8} (h:(parC s).2=0):txC (parC s).1=s:=by
 obtain⟨v,ev,hpn⟩:∃ v ev,pnums s=(v,ev):=⟨_,_,rfl⟩
 by_cases hev:ev=0
 ·subst hev
  by_cases hlen:v.length=5
  ·match v,hlen with
   | [a,b,c,d,e],_ =>
    have hn:=zje (s:=s) (by rw [hpn])
    rw [hpn]at hn
    rw [q8 hpn]at h ⊢
    split at h
    ·rename_i h1
     rw [if_pos h1]
     split at h
     ·rename_i h2
      rw [if_pos h2]
      exact hn
     ·cases h
    ·cases h
  ·rw [za6 hpn hlen]at h;cases h
 ·rw [za5 hpn hev]at h;exact absurd h hev
theorem zp3 {s:List UInt8} (h:(parC s).2=0):okC (parC s).1:=by
 unfold parC at h ⊢
 by_cases h1:(pnums s).2≠0
 ·rw [if_pos h1]at h
  exact absurd h h1
 ·rw [if_neg h1]at h ⊢
  cases h2:ofL (pnums s).1 with
  | none=>rw [h2]at h;simp at h
  | some c =>
   rw [h2]at h
   simp only at h ⊢
   by_cases h3:smallC c.cl∧smallC c.no∧smallC c.fr∧smallC c.tt
   ·rw [if_pos h3]at h ⊢
    by_cases h4:okC c
    ·rw [if_pos h4];exact h4
    ·rw [if_neg h4]at h;simp at h
   ·rw [if_neg h3]at h;simp at h
theorem zkx {S:List UInt8} {c:Cm} {r:List (List UInt8)} (h:parCt S=.ok (c,r)):∃ x,splitF S=some (x::r)∧(parC x).2=0∧c=(parC x).1∧badF r=none∧r.length≤4095:=by
 unfold parCt at h
 cases hs:splitF S with
 | none=>rw [hs]at h;cases h
 | some l =>
  rw [hs]at h
  simp only at h
  by_cases h4:4096<l.length
  ·rw [if_pos h4]at h;cases h
  ·rw [if_neg h4]at h
   cases l with
   | nil=>cases h
   | cons x r' =>
    simp only at h
    by_cases h5:(parC x).2≠0
    ·rw [if_pos h5]at h;cases h
    ·rw [if_neg h5]at h
     cases hb:badF r' with
     | none =>
      rw [hb]at h
      simp only [Except.ok.injEq,Prod.mk.injEq]at h
      obtain⟨h6,rfl⟩:=h
      exact⟨x,rfl,by simpa using h5,h6.symm,hb,by simp at h4;omega⟩
     | some f=>rw [hb]at h;cases h
theorem znd {S:List UInt8} {ev:Int} (h:parCt S=.error ev):ev≠0:=by
 unfold parCt at h
 cases hs:splitF S with
 | none=>rw [hs]at h;cases h;decide
 | some l =>
  rw [hs]at h
  simp only at h
  by_cases h4:4096<l.length
  ·rw [if_pos h4]at h;cases h;decide
  ·rw [if_neg h4]at h
   cases l with
   | nil=>cases h;decide
   | cons x r' =>
    simp only at h
    by_cases h5:(parC x).2≠0
    ·rw [if_pos h5]at h;cases h;exact h5
    ·rw [if_neg h5]at h
     cases hb:badF r' with
     | none=>rw [hb]at h;cases h
     | some f =>
      rw [hb]at h
      cases h
      unfold badF at hb
      have:=List.find?_some hb
      simpa using this
theorem zg2 {r:List (List UInt8)} (h:badF r=none) (k:Nat) (hk:k<r.length):stE r[k]=0:=by
 unfold badF at h
 rw [List.find?_eq_none]at h
 simpa using h r[k] (List.getElem_mem hk)
theorem zg3:∀(l:List (List UInt8)),(∀ x∈l,16≤x.length)→16*l.length≤(joinC l).length
 | [],_=>by simp [joinC]
 | [x],h=>by have:=h x (by simp);simp [joinC];omega
 | x::y::l,h=>by
  have h1:=h x (by simp)
  have h2:=zg3 (y::l) (fun z hz=>h z (by simp [hz]))
  simp only [joinC,List.length_append,List.length_cons]at h2 ⊢
  omega
theorem zer {n:Nat}:∀(l:List (List UInt8)),(∀ x∈l,n≤x.length)→n*l.length≤(joinF l).length
 | [],_=>by simp
 | x::l,h=>by
  have h1:=h x (by simp)
  have h2:=zer l (fun z hz=>h z (by simp [hz]))
  have h3:=zi5 x
  have e:joinF (x::l)=(124::fld x)++joinF l:=by simp [joinF]
  rw [e,List.length_append,List.length_cons,List.length_cons,Nat.mul_succ]
  omega
theorem zsd {f:List UInt8} (h:stE f=0):150≤f.length:=by
 have e:=zgx h
 generalize stO f=X at e
 rw [←e]
 unfold StR.t stT
 refine Nat.le_trans ?_ (ji _ (sgT X.g.1.1 X.g.1.2 X.g.2.1 X.g.2.2) (by simp))
 unfold sgT
 refine Nat.le_trans ?_ (ji _ (digs (oneL X.g.2.1)) (by simp))
 unfold digs
 have:=zg3 ((oneL X.g.2.1).map hexL) (fun x hx=>by
  obtain⟨n,_,rfl⟩:=List.mem_map.1 hx
  rw [zbe];omega)
 rw [List.length_map,zV]at this
 omega
theorem parU (S:List UInt8):∃(c0:Cm) (rr:List StR) (ex:Int),(∀ w e w',PaRes S w e w'→(∃ B k M,e=.returned (.tuple #[.agg (ctC c0 B rr.length k),.int .i64 ex])∧StL rr M∧Sps w' B M)∧Grew w w')∧rr.length≤4096∧(ex=0→c0.in∧(S.length≤6000→rr.length≤40)∧∀ M,StL rr M→ctTx c0 M=S):=by
 cases hp:parCt S with
 | error ev =>
  refine⟨Cm.zero,[],ev,fun w e w' h=>⟨⟨none,0,[],h.no ev hp,StL.nil,⟨RdC.nil _ _ _,by simp,by simp⟩⟩,h.gr⟩,by simp,fun h=>absurd h (znd hp)⟩
 | ok cr =>
  obtain⟨c,r⟩:=cr
  obtain⟨x,hs,hx,rfl,hb,hl⟩:=zkx hp
  refine⟨(parC x).1,r.map stO,0,fun w e w' h=>⟨?_,h.gr⟩,by simp;omega,fun _=>⟨ky (zp3 hx),fun hS=>?_,fun M hM=>?_⟩⟩
  ·obtain⟨B,k,M,h1,h2,h3⟩:=h.yes _ _ hp
   exact⟨B,k,M,by rw [List.length_map];exact h1,h2,h3⟩
  ·have h1:=zer (n:=150) r (fun f hf=>by
    obtain⟨k,hk,rfl⟩:=List.getElem_of_mem hf
    exact zsd (zg2 hb k hk))
   have h2:=xp S _ hs
   have e:joinF (x::r)=(124::fld x)++joinF r:=by simp [joinF]
   rw [e]at h2
   have h3:((124::fld x)++joinF r).length=S.length:=by rw [h2]
   rw [List.length_append]at h3
   rw [List.length_map]
   omega
  ·unfold ctTx
   rw [znc hx]
   have hm:M.map SP.tx=r:=by
    have hlen:M.length=r.length:=by have:=hM.len;simpa using this
    refine List.ext_getElem (by simpa using hlen) fun k h1 h2=>?_
    obtain⟨A,c,e⟩:=hM.each k (by simpa using h2) (by simpa using h1)
    rw [List.getElem_map,e,List.getElem_map]
    exact zgx (zg2 hb k h2)
   rw [hm]
   exact xp S _ hs
theorem mvl_st {l:List StR} {M N:List SP} (h:StL l M) (k:StL l N):MvL M N:=⟨by rw [h.len,k.len],fun i h1 h2=>by
 have hi:i<l.length:=by rw [←h.len];exact h1
 obtain⟨A,c,e⟩:=h.each i hi h1
 obtain⟨A',c',e'⟩:=k.each i hi h2
 exact⟨A',c',by rw [e,e'];rfl⟩⟩
theorem zse {L M N:List SP} (h:MvL L M) (k:MvL L N):MvL M N:=⟨by rw [h.len,k.len],fun i h1 h2=>by
 have hi:i<L.length:=by rw [←h.len];exact h1
 obtain⟨A,c,e⟩:=h.each i hi h1
 obtain⟨A',c',e'⟩:=k.each i hi h2
 exact⟨A',c',by rw [e,e'];rfl⟩⟩
structure CwT (w:World) (c0:Cm) (L:List SP) (v:Value):Prop where
 out:∃ B k M,v=.agg (ctC c0 B L.length k)∧MvL L M∧Sps w B M
theorem CwT.gr {w w':World} {c0:Cm} {L:List SP} {v:Value} (h:CwT w c0 L v) (g:Grew w w'):CwT w' c0 L v:=by
 obtain⟨B,k,M,h1,h2,h3⟩:=h.out
 exact⟨B,k,M,h1,h2,h3.gr g⟩
theorem zsf (S:SP) (hS:S.ok) (w:World) (ha:S.at w) :
 Calls Tryz.prog 182 #[.agg S.C] w fun e w'=>∃ A2 c2,e=.returned (.agg (S.mv A2 c2).C)∧(S.mv A2 c2).at w'∧(∀ ad,A2=some ad→w.heap.size≤ad.block)∧Grew w w' :=
 (zr0 S.cm S.who S.at_ S.sw S.lf S.s S.A S.c S.l (by have:=hS.len;omega) w ha).mono fun e w' ⟨A2,c2,h1,h2,h3,h4⟩=>⟨A2,c2,h1,h2,h4,h3⟩
theorem zp4 (A:Option Addr) (c:Nat) (L:List SP) (hl:L.length≤100000) (w:World) (hL:Sps w A L) :
 Calls Tryz.prog 109 #[.slice A L.length c] w fun e w'=>∃ B c' M,e=.returned (.slice B L.length c')∧MvL L M∧Sps w' B M∧L.length≤c'∧c'≤maxLen∧(∀ ad,B=some ad→w.heap.size≤ad.block)∧(∀ S∈M,∀ ad,S.A=some ad→S.l=[]∨w.heap.size≤ad.block)∧Grew w w':=by
 obtain⟨i0,hi,hz0,hz1,hz2⟩:=info_parts zi6
 have hut:=Tryz.underlying91
 have HL:=hQ9 hL
 have hr:=hL.rd
 clear hL
 go_enter Tryz.func109,Tryz.ntmps109
 go_wp2_with fail
 go_loopw [3,4] (fun rv iv wr=>∃(i:Nat) (M:List SP),i≤L.length∧iv=.int .i64 i∧MvL (L.take i) M∧(∀ S∈M,S.ok)∧(∀ S∈M,S.at wr)∧(∀ S∈M,∀ ad,S.A=some ad→∀ g,rv.ownBlock=some g→S.l=[]∨ad.block≠g)∧(∀ S∈M,∀ ad,S.A=some ad→S.l=[]∨w.heap.size≤ad.block)∧wr.ownsRow w.heap.size 169 24 rv i (spL M).flatten∧Grew w wr) (fun _ i _=>L.length-(Go.RowKit.intOf i).toNat)
 case atStart=>exact⟨0,[],Nat.zero_le _,rfl,by simpa using MvL.nil,by simp,by simp,by simp,by simp,by simpa [spL]using World.ownsRow_nil _ _ _ _,Below.refl _ _⟩
 case round =>
  obtain⟨i,M,hil,rfl,hmv,hok,hat,hne,hlow,hrow,hg⟩:=hrel
  by_cases hlt:i<L.length
  ·obtain⟨q,hA,hq,hm⟩:=RdC.at24 hr hg i hlt
   subst hA
   have hts:L.take (i+1)=L.take i++[L[i]]:=by rw [List.take_succ_eq_append_getElem hlt]
   have HTS:=hQ9 hts
   have hSok:=HL.out.ok L[i] (List.getElem_mem hlt)
   have hSat:=(HL.out.at_ L[i] (List.getElem_mem hlt)).gr hg
   clear hts
   have hi0:(0:Int)≤(i:Int):=by omega
   have hi1:(i:Int)<(L.length:Int):=by omega
   have e4:IntKind.i64.wrap ((i:Int)+1)=(i:Int)+1:=IntWalk.i64_in _ (by omega)
   generalize L[i]=S at *
   have SIS:Hid ((Tryz.prog.info? 91).map (·.size)=some S.C.toList.length):=hQ9 zy
   have CCP:=hQ9 (zsf S hSok wr hSat)
   have HOK:=hQ9 hok
   have HNE:=hQ9 hne
   have HLW:=hQ9 hlow
   have hwz:=hg.size
   have HWZ:=hQ9 hwz
   have HMV:=hQ9 hmv
   have HAT:=hQ9 (fun S hS=>hat S hS)
   have HSO:=hQ9 hSok
   clear hok hne hlow hmv hat hSok hSat hwz
   go_wp2_with(with_reducible refine wpList_load_mid rfl 91 (.tmp 14) rfl q (i*24) rfl S.C.toList _ hm hut rfl SIS.out ?_;simp only [Array.toArray_toList])
   refine(CCP.out).mono ?_
   rintro e w3 ⟨A2,c2,rfl,hat2,hfr2,gg⟩
   have G3:=zc hg gg
   have hrow3:=zx (S:=fun _=>False) hrow (zJ gg) (fun g _ h=>h)
   have hsz3:=G3.size
   have hsz:(S.mv A2 c2).C.size=24:=rfl
   have HAT3:=hQ9 (fun T hT=>(HAT.out T hT).gr gg)
   have HOB:=hQ9 (zN hrow)
   have hgz:=gg.size
   have HFR:Hid (∀ ad,A2=some ad→S.l=[]∨wr.heap.size≤ad.block):=hQ9 (fun ad h=>.inr (hfr2 ad h))
   clear hrow hm gg hg CCP HAT
   go_wp2_with(first
    | (at_builtin;rw [xI];refine yn _ rfl (.tmp 11) (.tmp 17) 27 rfl w.heap.size 169 i0 (.agg (#[.int .u64 0,.int .i64 0,.int .i64 0,.int .i64 0,.int .i64 0,.int .u64 0,.int .u64 0,.int .u64 0,.int .u64 0,.int .u64 0,.int .u64 0,.int .u64 0,.int .u64 0,.int .u64 0,.int .u64 0,.int .u64 0,.int .u64 0,.int .u64 0,.int .u64 0,.int .u64 0,.int .u64 0,.int .u64 0,.int .u64 0,.slice none 0 0]:Array Value)) 24 208 Tryz.underlying27 hi hz0 hz1 hz2 rfl (by decide) _ _ _ rfl (hrow3.alloc _) ⟨w3.heap.size,0,none⟩ 1 1 (S.mv A2 c2).C.toList rfl rfl (fun j u hj=>yP w3 (S.mv A2 c2).C 169 j u hj) (S.mv A2 c2).one' (by unfold maxLen;omega) (by omega) (by simp;omega) ?_;intro v' w5 hown5 hgrow5 hob5))
   have ga:=ze (za w3) (.cells (S.mv A2 c2).C 169)
   go_roundw
   case rel =>
    refine⟨i+1,M++[S.mv A2 c2],by omega,by go_num,by rw [HTS.out];exact HMV.out.snoc S A2 c2,?_,?_,?_,?_,by rw [yU];exact hown5,(ze G3 _).grown hgrow5 (by simp;omega) (zj hrow3)⟩
    ·intro T hT
     rcases List.mem_append.1 hT with h | h
     ·exact HOK.out T h
     ·obtain rfl:T=S.mv A2 c2:=by simpa using h
      exact SP.mv_ok HSO.out _ _
    ·intro T hT
     rcases List.mem_append.1 hT with h | h
     ·exact yD ((HAT3.out T h).gr ga) hgrow5 (fun ad e g hg=>HNE.out T h ad e g hg)
     ·obtain rfl:T=S.mv A2 c2:=by simpa using h
      exact yD (hat2.gr ga) hgrow5 (fun ad e g hg=>by
       rcases HFR.out ad e with h1 | h1
       ·exact .inl h1
       ·have:=(HOB.out g hg).2
        exact .inr (by omega))
    ·intro T hT ad e g hg
     have hlt9:T.l=[]∨ad.block<(w3.alloc (.cells (S.mv A2 c2).C 169)).heap.size:=by
      rcases List.mem_append.1 hT with h | h
      ·exact at_lt ((HAT3.out T h).gr ga) ad e
      ·obtain rfl:T=S.mv A2 c2:=by simpa using h
       exact at_lt (hat2.gr ga) ad e
     rcases hob5 with h3 | h3
     ·rw [h3]at hg
      rcases List.mem_append.1 hT with h | h
      ·exact HNE.out T h ad e g hg
      ·obtain rfl:T=S.mv A2 c2:=by simpa using h
       rcases HFR.out ad e with h1 | h1
       ·exact .inl h1
       ·have:=(HOB.out g hg).2
        exact .inr (by omega)
     ·rw [h3]at hg;injection hg with hg
      rcases hlt9 with h1 | h1
      ·exact .inl h1
      ·exact .inr (by omega)
    ·intro T hT ad e
     rcases List.mem_append.1 hT with h | h
     ·exact HLW.out T h ad e
     ·obtain rfl:T=S.mv A2 c2:=by simpa using h
      rcases HFR.out ad e with h1 | h1
      ·exact .inl h1
      ·exact .inr (Nat.le_trans HWZ.out h1)
   case measure=>simp [Go.RowKit.intOf];omega
  ·obtain rfl:i=L.length:=by omega
   rw [List.take_length]at hmv
   obtain⟨B,c',rfl,hB,hc1,hc2,hbB⟩:=xa hrow hmv.len
   go_wp2_with fail
   go_ret
   exact⟨B,c',M,rfl,hmv,⟨hB,hok,hat⟩,hc1,hc2,fun ad e=>(hbB ad e).1,hlow,hg⟩
structure OfV (L:List SP) (b:Nat) (z:World) (v:Value) (f:Option Addr→Nat→Value):Prop where
 out:∃ B k M,v=f B k∧MvL L M∧Sps z B M∧(∀ ad,B=some ad→b≤ad.block)∧(∀ S∈M,∀ ad,S.A=some ad→S.l=[]∨b≤ad.block)
theorem OfV.gr {L:List SP} {b:Nat} {z z':World} {v:Value} {f:Option Addr→Nat→Value} (h:OfV L b z v f) (g:Grew z z'):OfV L b z' v f:=by
 obtain⟨B,k,M,h1,h2,h3,h4,h5⟩:=h.out
 exact⟨B,k,M,h1,h2,h3.gr g,h4,h5⟩
theorem zne (c:Cm) (A:Option Addr) (k:Nat) (L:List SP) (hl:L.length≤100000) (w:World) (hL:Sps w A L) :
 Calls Tryz.prog 31 #[.agg (ctC c A L.length k)] w fun e w'=>(∃ B k' M,e=.returned (.agg (ctC c B L.length k'))∧MvL L M∧Sps w' B M)∧Grew w w':=by
 have huc:=Tryz.underlying33
 have hur:=Tryz.underlying29
 have SIC:Hid ((Tryz.prog.info? 33).map (·.size)=some c.cells.toList.length):=hQ9 (show _=some 5 by kernel_rfl)
 have z1:=(Ag.new w 36 (ctC c A L.length k)).grew (ze (za _) (.cells (zS6:Array Value) 29))
 have y1:=Ag.new (w.alloc (.cells (ctC c A L.length k) 36)) 29 (zS6:Array Value)
 rw [zD]at y1
 have G1:=ze (ze (za w) (.cells (ctC c A L.length k) 36)) (.cells (zS6:Array Value) 29)
 have CO:=hQ9 (fun W=>cof_ok c W)
 rw [show c.v=.agg c.cells from rfl]at CO
 have HLS:=hQ9 (hL.gr G1)
 have CA:=hQ9 (fun W (h:Sps W A L)=>zp4 A k L hl W h)
 have HBU:∀(B:Option Addr) (n:Nat),Hid (Tryz.prog.built 29 [(0,.agg c.cells),(1,.slice B L.length n)]=some (ctC c B L.length n)):=fun B n=>hQ9 (by kernel_rfl)
 have HSZ:Hid (((w.alloc (.cells (ctC c A L.length k) 36)).alloc (.cells (#[.int .i64 0,.int .i64 0,.int .i64 0,.int .i64 0,.int .i64 0,.slice none 0 0]:Array Value) 29)).heap.size=w.heap.size+2):=hQ9 (by simp)
 clear hL
 go_enter Tryz.func31,Tryz.ntmps31
 go_upto_region 1 with fail
 generalize (w.alloc (.cells (ctC c A L.length k) 36)).alloc (.cells (zS6:Array Value) 29)=w1 at *
 have HMC:=hQ9 (fun y (g:Grew w1 y)=>yQ (z1.grew g))
 have HC5:Hid (∀ y,Grew w1 y→y.cell? ⟨w.heap.size,5,none⟩=some (.slice A L.length k)):=hQ9 (fun y g=>by simpa using (z1.grew g).cell 5 _ rfl)
 clear z1
 refine zH 7 (fun ix9=>match ix9 with
  | 0=>fun v _=>v=.pointer (some ⟨w.heap.size,0,none⟩)
  | 1=>fun v _=>v=.agg c.cells
  | 2=>fun v _=>v=.agg c.cells
  | 3=>fun v _=>v=.pointer (some ⟨w.heap.size,5,none⟩)
  | 4=>fun v _=>v=.slice A L.length k
  | 5=>fun v z=>OfV L w1.heap.size z v (fun B n=>.slice B L.length n)
  | 6=>fun v z=>OfV L w1.heap.size z v (fun B n=>.agg (ctC c B L.length n))
  | _=>fun _ _=>True) (by kernel_rfl) (by kernel_rfl) ?_ ?_ ?_
 ·intro i v x y h hg
  match i,h with
  | 0,h | 1,h | 2,h | 3,h | 4,h=>exact h
  | 5,h=>exact OfV.gr h hg
  | 6,h=>exact OfV.gr h hg
  | m+7,_=>trivial
 ·simp only [actOf,tk1,tk0,dr1,dr0,Act.put,si1,st1,st0,Nat.reduceAdd]
  refine⟨?_,?_,?_,?_,?_,?_,?_,trivial⟩
  ·intro vs y hg hd
   dsimp only
   go_wp2_with fail
   exact⟨rfl,_,rfl,za _,rfl⟩
  ·intro vs y hg hd
   obtain⟨h0,_⟩:=hd
   replace h0:=h0 rfl
   dsimp only
   rw [show vs 0=_ from h0]
   have hm:=HMC.out y hg
   go_wp2_with(with_reducible refine wpList_load_mid rfl 33 (.tmp 3) rfl w.heap.size 0 rfl c.cells.toList _ hm huc rfl SIC.out ?_;simp only [Array.toArray_toList])
   exact⟨rfl,_,rfl,za _,rfl⟩
  ·intro vs y hg hd
   obtain⟨h1,_⟩:=hd
   replace h1:=h1 rfl
   dsimp only
   rw [show vs 1=_ from h1]
   go_wp2_with(go_at_call 108;refine(CO.out y).mono ?_;rintro e z ⟨rfl,gz⟩)
   exact⟨rfl,_,rfl,gz,rfl⟩
  ·intro vs y hg hd
   dsimp only
   go_wp2_with fail
   exact⟨rfl,_,rfl,za _,rfl⟩
  ·intro vs y hg hd
   obtain⟨h4,_⟩:=hd
   replace h4:=h4 rfl
   dsimp only
   rw [show vs 3=_ from h4]
   have hc:=HC5.out y hg
   go_wp2_with fail
   exact⟨rfl,_,rfl,za _,rfl⟩
  ·intro vs y hg hd
   obtain⟨h5,_⟩:=hd
   replace h5:=h5 rfl
   dsimp only
   rw [show vs 4=_ from h5]
   go_wp2_with(go_at_call 109;refine(CA.out y (HLS.out.gr hg)).mono ?_;rintro e z ⟨B9,k9,M9,rfl,hmv9,hsp9,hcc1,hcc2,hbB9,hlw9,gz⟩)
   exact⟨rfl,_,rfl,gz,⟨B9,k9,M9,rfl,hmv9,hsp9,fun ad h=>Nat.le_trans hg.size (hbB9 ad h),fun S hS ad h=>(hlw9 S hS ad h).imp id (Nat.le_trans hg.size)⟩⟩
  ·intro vs y hg hd
   obtain⟨h2,h5,_⟩:=hd
   replace h2:=h2 rfl
   obtain⟨B9,k9,M9,e9,hr9⟩:=(h5 rfl).out
   dsimp only
   rw [show vs 2=_ from h2,show vs 5=_ from e9]
   have HB9:=HBU B9 k9
   go_wp2_with(with_reducible refine zI rfl 29 #[(0,.tmp 5),(1,.tmp 8)] rfl (ctC c B9 L.length k9) ?_ ?_;· simpa [Act.eval,Act.put]using HB9.out)
   exact⟨rfl,_,rfl,za _,⟨B9,k9,M9,rfl,hr9⟩⟩
 ·intro vs w2 hg hJ
  obtain⟨B9,k9,M9,e9,hmv9,hsp9,hbB9,hlw9⟩:=(show OfV L w1.heap.size w2 (vs 6) _ from hJ 6 (by decide)).out
  clear hJ
  simp only [actOf,tk1,tk0,dr1,dr0,Act.put,si1,st1,st0,Nat.reduceAdd]
  have y2:=y1.grew hg
  have G2:=zc G1 hg
  rw [e9]
  have HTH:Hid (w2.there (w.heap.size+1) 0 (ctC c B9 L.length k9).size):=hQ9 (y2.thereN 6 rfl)
  have HSI:Hid ((Tryz.prog.info? 29).map (·.size)=some (ctC c B9 L.length k9).size):=hQ9 ye
  have HON:=hQ9 (yt c B9 L.length k9)
  have zf:=Ag.set (vs:=(ctC c B9 L.length k9).toList) y2 rfl
  have Gf:=zg (o:=0) (b:=w.heap.size+1) (ctC c B9 L.length k9).toList G2 (Nat.le_succ _)
  have HSPS:=hQ9 (hsp9.kpx (zG (ctC c B9 L.length k9).toList (w.heap.size+1) 0 w2) (fun ad2 h e=>by have:=hbB9 ad2 h;have:=HSZ.out;omega) (fun T hT ad2 h=>by rcases hlw9 T hT ad2 h with h1 | h1;exact .inl h1;exact .inr (fun e=>by have:=HSZ.out;omega)))
  go_wp2_with(with_reducible refine wpList_store_mid rfl 29 (.tmp 2) (.tmp 9) rfl (w.heap.size+1) 0 (ctC c B9 L.length k9) rfl rfl HTH.out HSI.out HON.out ?_)
  exact bodyPost_ret (yp Tryz.results31 _ _ (w.heap.size+1) _ _ rfl zf hur rfl ye) rfl ⟨⟨B9,⟨k9,rfl⟩,M9,hmv9,HSPS.out⟩,Gf⟩
def cm12 (n:Int):Cm:=⟨1,n,2,3,4⟩
theorem ok12 (n:Int) (h:0≤n∧n≤1048576):okC (cm12 n):=by unfold okC cm12;simp only;omega
theorem qS:dgC (cm12 0)=11072973056134508768:=by unfold dgC;rw [xO];decide +kernel
theorem dg12_1:dgC (cm12 1)=2552101572347126849:=by unfold dgC;rw [xO];decide +kernel
def at12 (i:Nat):Int:=10*(4-(i:Int))
noncomputable def sp12 (i:Nat) (A:Option Addr) (c:Nat):SP:=⟨11072973056134508768,i,at12 i,i,0,signF (secN (sdI 3 i) 0) (stD 11072973056134508768 (i:Int) (at12 i)),A,c,pathN (ksL 3 2 i) 0⟩
theorem sd12 (i:Nat) (h:i<4):sdI 3 i=((3+i:Nat):Int):=by unfold sdI;omega
def pub3C (sd i:Nat):Nat:=foldC (fun k=>chainC (sumC tagOt []) (twoC tagSk sd (32*i+k)) 15) 18
theorem sec3C (sd i k:Nat) (hi:i<100) (h:k<18):secN (sd:Int) (i:Int) k=twoC tagSk sd (32*i+k):=by
 unfold secN
 rw [qI,Int.toNat_natCast]
 congr 1
 omega
theorem xV (sd i:Nat) (hi:i<100):pubN (secN (sd:Int) (i:Int))=pub3C sd i:=by
 unfold pubN
 rw [zq8]
 refine zhi _ _ _ fun k hk=>?_
 show chainI tagOt (secN (sd:Int) (i:Int) k) ((15:Nat):Int)=_
 rw [zfy _ _ _ (by omega),sec3C sd i k hi hk]
theorem zg4 (sd:Int):pathN (pubsL sd 4) 0=[pubN (secN sd (1:Nat)),twoN tagMt (pubN (secN sd (2:Nat))) (pubN (secN sd (3:Nat)))]:=by
 obtain⟨_,h1,h2,h3⟩:=zmk 1 (by decide) (pubsL sd 4) (by rw [yV])
 have ed:(pubsL sd 4).drop (2^1)=[pubN (secN sd (2:Nat)),pubN (secN sd (3:Nat))]:=by simp [pubsL,List.range_succ]
 have e1:(pubsL sd 4).getD 1 0=pubN (secN sd (1:Nat)):=by simp [pubsL,List.range_succ]
 have er:rootN [pubN (secN sd (2:Nat)),pubN (secN sd (3:Nat))]=twoN tagMt (pubN (secN sd (2:Nat))) (pubN (secN sd (3:Nat))):=(zmk 0 (by decide) [pubN (secN sd (2:Nat)),pubN (secN sd (3:Nat))] rfl).1.trans (by simp [rootN,rootF])
 rw [ed,er]at h2
 rw [e1]at h3
 generalize pathN (pubsL sd 4) 0=q at *
 match q,h1 with
 | [x,y],_ =>
  simp only [List.getD_cons_zero,List.getD_cons_succ]at h2 h3
  rw [h2,h3]
theorem one3C (sd d:Nat):oneL (signF (secN (sd:Int) 0) d)=(List.range 18).map (fun k=>chainC (sumC tagOt []) (twoC tagSk sd k) (digK d k)):=by
 unfold oneL
 refine List.map_congr_left fun k hk=>?_
 have hk:=List.mem_range.1 hk
 show chainI tagOt (secN (sd:Int) 0 k) (digK d k:Nat)=_
 have h:=ju d k
 rw [zfy _ _ _ (by omega)]
 have:=sec3C sd 0 k (by omega) hk
 rw [show((0:Nat):Int)=0 from rfl]at this
 rw [this]
 simp
theorem zsg:stD 11072973056134508768 (0:Nat) 40=15966621887227842923:=by unfold stD;rw [xO];decide +kernel
theorem zsh:oneL (signF (secN (sdI 3 0) 0) (stD 11072973056134508768 (0:Nat) (at12 0)))=[10164839410981344642,18027604537860607343,8478863248707526853,16744804209310170342,8814157964299338987,546146407423097686,7003691831920922978,10750060559880112357,8399057036288445816,6136470048841033100,1379996484370740556,16679784669701375912,8767933177087969519,5780988666691838277,8173614882595541081,11208229297800286905,3105118423646406668,6068574429966205700]:=by
 rw [sd12 0 (by decide),show at12 0=40 from by decide,zsg,one3C]
 decide +kernel
theorem znf:pub3C 3 1=10838168572868916013:=by decide +kernel
theorem zng:pub3C 3 2=4016481466389781505:=by decide +kernel
theorem znh:pub3C 3 3=15729641900515066672:=by decide +kernel
theorem zp5:pathN (ksL 3 2 0) 0=[10838168572868916013,3520008264607841851]:=by
 unfold ksL
 rw [sd12 0 (by decide),show(2:Nat)^2=4 from rfl,zg4,show((3+0:Nat):Int)=((3:Nat):Int) from rfl,xV 3 1 (by decide),xV 3 2 (by decide),xV 3 3 (by decide),znf,zng,znh,qI]
 decide +kernel
def tx12_0:List UInt8:=joinF [hexL 11072973056134508768,Lib.itoa 0,Lib.itoa 40,joinF [Lib.itoa 0,Lib.itoa 0,digs [10164839410981344642,18027604537860607343,8478863248707526853,16744804209310170342,8814157964299338987,546146407423097686,7003691831920922978,10750060559880112357,8399057036288445816,6136470048841033100,1379996484370740556,16679784669701375912,8767933177087969519,5780988666691838277,8173614882595541081,11208229297800286905,3105118423646406668,6068574429966205700],digs [10838168572868916013,3520008264607841851]]]
theorem zdo (A:Option Addr) (c:Nat):(sp12 0 A c).tx=tx12_0:=by
 unfold SP.tx stT sgT
 have h1:=zsh
 have h2:=zp5
 simp only [sp12]
 rw [h1,h2,show at12 0=40 from by decide]
 rfl
theorem zsi:stD 11072973056134508768 (1:Nat) 30=1638133653024639930:=by unfold stD;rw [xO];decide +kernel
theorem zsj:oneL (signF (secN (sdI 3 1) 0) (stD 11072973056134508768 (1:Nat) (at12 1)))=[8823409642947144199,10726231353690296254,5308919216513504128,7890064108720259084,5796236875647544759,3585312209228410274,4779330838179531242,15869258363420006580,6225437809584029066,536173375699785379,7436645652985450857,14311322390946840234,5809670913101291951,16244213456542064592,641379409487724698,15731445655921949264,13959165149023755926,2740980461045437638]:=by
 rw [sd12 1 (by decide),show at12 1=30 from by decide,zsi,one3C]
 decide +kernel
theorem zni:pub3C 4 1=6649314571574237929:=by decide +kernel
theorem znj:pub3C 4 2=18192797344987365427:=by decide +kernel
theorem znk:pub3C 4 3=18037127278147134743:=by decide +kernel
theorem zp6:pathN (ksL 3 2 1) 0=[6649314571574237929,6357026864268119474]:=by
 unfold ksL
 rw [sd12 1 (by decide),show(2:Nat)^2=4 from rfl,zg4,show((3+1:Nat):Int)=((4:Nat):Int) from rfl,xV 4 1 (by decide),xV 4 2 (by decide),xV 4 3 (by decide),zni,znj,znk,qI]
 decide +kernel
def tx12_1:List UInt8:=joinF [hexL 11072973056134508768,Lib.itoa 1,Lib.itoa 30,joinF [Lib.itoa 1,Lib.itoa 0,digs [8823409642947144199,10726231353690296254,5308919216513504128,7890064108720259084,5796236875647544759,3585312209228410274,4779330838179531242,15869258363420006580,6225437809584029066,536173375699785379,7436645652985450857,14311322390946840234,5809670913101291951,16244213456542064592,641379409487724698,15731445655921949264,13959165149023755926,2740980461045437638],digs [6649314571574237929,6357026864268119474]]]
theorem zdp (A:Option Addr) (c:Nat):(sp12 1 A c).tx=tx12_1:=by
 unfold SP.tx stT sgT
 have h1:=zsj
 have h2:=zp6
 simp only [sp12]
 rw [h1,h2,show at12 1=30 from by decide]
 rfl
theorem zsk:stD 11072973056134508768 (2:Nat) 20=1493983740783670662:=by unfold stD;rw [xO];decide +kernel
theorem zsl:oneL (signF (secN (sdI 3 2) 0) (stD 11072973056134508768 (2:Nat) (at12 2)))=[44330632093622936,111613608495711016,9715802212940863209,16683418268780201974,16729694224924817261,2068012371469009618,12625856476852044684,15481458255126746410,16754180944146849501,1305139591516044412,3392515149159059428,6319750731398349896,15114143218134344655,13480120470573555273,7256571735283944402,16205960372130547571,11152131732521797278,3881808075244492058]:=by
 rw [sd12 2 (by decide),show at12 2=20 from by decide,zsk,one3C]
 decide +kernel
theorem znl:pub3C 5 1=1797428194185415636:=by decide +kernel
theorem znm:pub3C 5 2=4622135885507702946:=by decide +kernel
theorem znn:pub3C 5 3=2475106352051428798:=by decide +kernel
theorem zp7:pathN (ksL 3 2 2) 0=[1797428194185415636,9820152051246451109]:=by
 unfold ksL
 rw [sd12 2 (by decide),show(2:Nat)^2=4 from rfl,zg4,show((3+2:Nat):Int)=((5:Nat):Int) from rfl,xV 5 1 (by decide),xV 5 2 (by decide),xV 5 3 (by decide),znl,znm,znn,qI]
 decide +kernel
def tx12_2:List UInt8:=joinF [hexL 11072973056134508768,Lib.itoa 2,Lib.itoa 20,joinF [Lib.itoa 2,Lib.itoa 0,digs [44330632093622936,111613608495711016,9715802212940863209,16683418268780201974,16729694224924817261,2068012371469009618,12625856476852044684,15481458255126746410,16754180944146849501,1305139591516044412,3392515149159059428,6319750731398349896,15114143218134344655,13480120470573555273,7256571735283944402,16205960372130547571,11152131732521797278,3881808075244492058],digs [1797428194185415636,9820152051246451109]]]
theorem zdq (A:Option Addr) (c:Nat):(sp12 2 A c).tx=tx12_2:=by
 unfold SP.tx stT sgT
 have h1:=zsl
 have h2:=zp7
 simp only [sp12]
 rw [h1,h2,show at12 2=20 from by decide]
 rfl
theorem zsm (i k:Nat):(signF (secN (sdI 3 i) 0) (stD 11072973056134508768 (i:Int) (at12 i))) k<18446744073709551616:=zov _ _ _ (zcz _ _ _)
theorem zg5 (i:Nat):(pathN (ksL 3 2 i) 0).length=2:=zgr _ 2 (by omega) 0 (by decide)
theorem zi7 (i:Nat) (hi:i<4) (A:Option Addr) (c:Nat):(sp12 i A c).ok :=
 ⟨by show 11072973056134508768<_;decide,⟨by show _≤(i:Int);omega,by show(i:Int)≤_;omega⟩,⟨by show _≤at12 i;unfold at12;omega,by show at12 i≤_;unfold at12;omega⟩,⟨by show _≤(i:Int);omega,by show(i:Int)≤_;omega⟩,⟨by show _≤(0:Int);decide,by show(0:Int)≤_;decide⟩,fun k _=>zsm i k,by show(pathN (ksL 3 2 i) 0).length≤1000;rw [zg5];decide,(show ∀ x∈pathN (ksL 3 2 i) 0,x<18446744073709551616 from zo9 _ _ (jR _ _))⟩
noncomputable def kp12 (RA:Option Addr) (Rc:Nat):KP:=⟨1,rtL 3 2 4,RA,Rc,2⟩
theorem zad (RA:Option Addr) (Rc:Nat):(kp12 RA Rc).ok:=⟨⟨by show(1:Int)≤1;omega,by show(1:Int)≤3;omega⟩,by show(rtL 3 2 4).length≤1000;rw [zcm];omega,rt_lt _ _ _ (by omega)⟩
theorem va12 (RA:Option Addr) (Rc:Nat) (i:Nat) (hi:i<4) (A:Option Addr) (c:Nat):vaS (kp12 RA Rc) (sp12 i A c)=0 :=
 va_yes 3 2 (by omega) i 0 hi (by decide) 11072973056134508768 (at12 i) (decide_eq_true (by unfold at12;omega))
theorem fit12 (RA:Option Addr) (Rc:Nat) (i:Nat) (hi:i<4) (A:Option Addr) (c:Nat):fitB (kp12 RA Rc) 11072973056134508768 (sp12 i A c)=true:=by
 unfold fitB
 rw [va12 RA Rc i hi A c]
 simp [sp12]
theorem zsn (RA:Option Addr) (Rc:Nat) (i:Nat) (A:Option Addr) (c:Nat) (d:Nat) (hd:d≠11072973056134508768):fitB (kp12 RA Rc) d (sp12 i A c)=false:=by
 unfold fitB
 rw [show decide ((sp12 i A c).cm=d)=false from decide_eq_false (fun h=>hd h.symm)]
 rfl
theorem zno (A0 A1 A2 A3:Option Addr) (c0 c1 c2 c3:Nat):eachL SP.who [sp12 3 A3 c3,sp12 2 A2 c2,sp12 1 A1 c1,sp12 0 A0 c0]=[sp12 0 A0 c0,sp12 1 A1 c1,sp12 2 A2 c2,sp12 3 A3 c3]:=by
 rw [zak SP.who _ 4 (fun x hx=>by
  simp only [List.mem_cons,List.not_mem_nil,or_false]at hx
  rcases hx with rfl | rfl | rfl | rfl<;>exact⟨by show(0:Int)≤((_:Nat):Int);omega,by show((_:Nat):Int)<4;omega⟩)]
 simp [upTo,List.range_succ,sp12,List.find?]
theorem zso (A2 A3:Option Addr) (c2 c3:Nat):eachL SP.who [sp12 3 A3 c3,sp12 2 A2 c2]=[sp12 2 A2 c2,sp12 3 A3 c3]:=by
 rw [zak SP.who _ 4 (fun x hx=>by
  simp only [List.mem_cons,List.not_mem_nil,or_false]at hx
  rcases hx with rfl | rfl<;>exact⟨by show(0:Int)≤((_:Nat):Int);omega,by show((_:Nat):Int)<4;omega⟩)]
 simp [upTo,List.range_succ,sp12,List.find?]
section
variable (RA : Option Addr) (Rc : Nat) (A0 A1 A2 A3 : Option Addr) (c0 c1 c2 c3 : Nat)
theorem zp8:chosen (kp12 RA Rc) (dgC (cm12 0)) [sp12 3 A3 c3,sp12 2 A2 c2,sp12 1 A1 c1,sp12 0 A0 c0]=[sp12 0 A0 c0,sp12 1 A1 c1,sp12 2 A2 c2]:=by
 unfold chosen
 rw [qS,List.filter_eq_self.2 (fun x hx=>by
  simp only [List.mem_cons,List.not_mem_nil,or_false]at hx
  rcases hx with rfl | rfl | rfl | rfl<;>exact fit12 _ _ _ (by omega) _ _),zno]
 rfl
theorem zp9:enoughB (kp12 RA Rc) (dgC (cm12 0)) [sp12 3 A3 c3,sp12 2 A2 c2,sp12 1 A1 c1,sp12 0 A0 c0]=true:=by
 unfold enoughB
 rw [qS,List.filter_eq_self.2 (fun x hx=>by
  simp only [List.mem_cons,List.not_mem_nil,or_false]at hx
  rcases hx with rfl | rfl | rfl | rfl<;>exact fit12 _ _ _ (by omega) _ _),zno]
 rfl
theorem znp:enoughB (kp12 RA Rc) (dgC (cm12 0)) [sp12 3 A3 c3,sp12 2 A2 c2]=false:=by
 unfold enoughB
 rw [qS,List.filter_eq_self.2 (fun x hx=>by
  simp only [List.mem_cons,List.not_mem_nil,or_false]at hx
  rcases hx with rfl | rfl<;>exact fit12 _ _ _ (by omega) _ _),zso]
 rfl
theorem znq:enoughB (kp12 RA Rc) (dgC (cm12 1)) [sp12 3 A3 c3,sp12 2 A2 c2,sp12 1 A1 c1,sp12 0 A0 c0]=false:=by
 unfold enoughB
 rw [dg12_1,List.filter_eq_nil_iff.2 (fun x hx=>by
  simp only [List.mem_cons,List.not_mem_nil,or_false]at hx
  rcases hx with rfl | rfl | rfl | rfl<;>(rw [zsn _ _ _ _ _ _ (by decide)];decide))]
 have:eachL SP.who []=([]:List SP):=by
  have:=kL SP.who ([]:List SP)
  have h2:=xd SP.who ([]:List SP)
  exact List.eq_nil_of_length_eq_zero (by rw [h2];simpa using this)
 rw [this]
 rfl
theorem at12_c:atV [sp12 0 A0 c0,sp12 1 A1 c1,sp12 2 A2 c2]=30:=by
 unfold atV
 rw [if_neg (by simp)]
 have h:List.map SP.at_ [sp12 0 A0 c0,sp12 1 A1 c1,sp12 2 A2 c2]=[at12 0,at12 1,at12 2]:=rfl
 rw [h,show [sp12 0 A0 c0,sp12 1 A1 c1,sp12 2 A2 c2].length / 2=1 from by simp]
 unfold midZ
 rw [←jE (m:=[20,30,40]) (by decide) (by decide)]
 rfl
theorem at12_d:atV [sp12 1 A1 c1,sp12 0 A0 c0,sp12 2 A2 c2]=30:=by
 unfold atV
 rw [if_neg (by simp)]
 have h:List.map SP.at_ [sp12 1 A1 c1,sp12 0 A0 c0,sp12 2 A2 c2]=[at12 1,at12 0,at12 2]:=rfl
 rw [h,show [sp12 1 A1 c1,sp12 0 A0 c0,sp12 2 A2 c2].length / 2=1 from by simp]
 unfold midZ
 rw [←jE (m:=[20,30,40]) (by decide) (by decide)]
 rfl
theorem vd12 (i:Nat) (hi:i<4) (A:Option Addr) (c:Nat):vdE (kp12 RA Rc) (dgC (cm12 0)) (sp12 i A c)=0:=by
 unfold vdE
 rw [qS,va12 RA Rc i hi A c]
 simp [sp12]
theorem mv12_c:mvE (kp12 RA Rc) (cm12 0) [sp12 0 A0 c0,sp12 1 A1 c1,sp12 2 A2 c2]=0:=by
 unfold mvE cqE
 rw [if_pos (ok12 0 (by omega))]
 refine(if_pos (by rfl)).trans ?_
 rw [xC (by rfl) (vd12 RA Rc 0 (by omega) A0 c0),xC (by show decide (((1:Nat):Int)≤((0:Nat):Int))=false;decide) (vd12 RA Rc 1 (by omega) A1 c1),xC (by show decide (((2:Nat):Int)≤((1:Nat):Int))=false;decide) (vd12 RA Rc 2 (by omega) A2 c2)]
 rfl
theorem mv12_d:mvE (kp12 RA Rc) (cm12 0) [sp12 1 A1 c1,sp12 0 A0 c0,sp12 2 A2 c2]=10:=by
 unfold mvE cqE
 rw [if_pos (ok12 0 (by omega))]
 refine(if_pos (by rfl)).trans ?_
 rw [xC (by rfl) (vd12 RA Rc 1 (by omega) A1 c1),zdi (by show decide (((0:Nat):Int)≤((1:Nat):Int))=true;decide)]
theorem ctD12:ctD (cm12 0) [sp12 0 A0 c0,sp12 1 A1 c1,sp12 2 A2 c2]=9702888124108024343:=by
 unfold ctD ctTx
 simp only [List.map_cons,List.map_nil]
 rw [zdo,zdp,zdq,xO]
 decide +kernel
theorem ctD12d:ctD (cm12 0) [sp12 1 A1 c1,sp12 0 A0 c0,sp12 2 A2 c2]=4472664578534680490:=by
 unfold ctD ctTx
 simp only [List.map_cons,List.map_nil]
 rw [zdo,zdp,zdq,xO]
 decide +kernel
theorem ctTx12:(ctTx (cm12 0) [sp12 0 A0 c0,sp12 1 A1 c1,sp12 2 A2 c2]).length≤1000000:=by
 unfold ctTx
 simp only [List.map_cons,List.map_nil]
 rw [zdo,zdp,zdq]
 decide +kernel
end
structure SP.gd (S:SP):Prop where
 ok:S.ok
 who:-2147483648≤S.who∧S.who≤2147483647
 sw:0≤S.sw∧S.sw≤15
 lf:0≤S.lf
 len:S.l.length≤8
theorem st_tx {S:SP} (h:S.gd):stE S.tx=0∧stO S.tx=⟨S.cm,S.who,S.at_,((S.sw,S.lf),(fun k=>(oneL S.s).getD k 0),S.l)⟩:=by
 have hs:splitF S.tx=some [hexL S.cm,Lib.itoa S.who,Lib.itoa S.at_,sgT S.sw S.lf S.s S.l]:=by
  unfold SP.tx stT
  exact jG _
 have h1:=jS hs
 have p1:=ki h.ok.who.1 h.ok.who.2
 have p2:=ki h.ok.at_.1 h.ok.at_.2
 have p0:=jk S.cm h.ok.cm
 have p3:=zpv S.sw S.lf S.s S.l h.ok.sw h.ok.lf h.ok.s h.ok.l
 have hb:sigB S.sw S.lf S.l.length=true:=by
  unfold sigB
  simp only [Bool.and_eq_true,decide_eq_true_eq]
  exact⟨⟨h.sw,h.lf⟩,h.len⟩
 rw [hb,if_pos rfl]at p3
 have e:st4 (hexL S.cm) (Lib.itoa S.who) (Lib.itoa S.at_) (sgT S.sw S.lf S.s S.l)=true:=by
  have hw:=h.who
  unfold st4 smallB
  rw [p0,p1,p2,p3]
  simp only [decide_true,Bool.true_and,Option.isSome_some,Bool.and_true,decide_eq_true_eq]
  exact hw
 rw [e]at h1
 simp only [if_true]at h1
 refine⟨h1.1,h1.2.trans ?_⟩
 unfold stF
 rw [p0,p1,p2,p3]
 rfl
theorem zsp {c:Cm} (hc:okC c):parC (txC c)=(c,0):=by
 have h:=zma (ky hc)
 obtain⟨a,b,d,e,f⟩:=c
 have hk:=hc
 unfold okC at hk
 simp only at hk
 exact qK h (by unfold smallC;omega) hc
theorem zqa {c:Cm} (hc:okC c) (L:List SP) (hL:∀ S∈L,S.gd) (hl:L.length≤4095):parCt (ctTx c L)=.ok (c,L.map SP.tx):=by
 have hb:badF (L.map SP.tx)=none:=qR (fun j hj=>by
  rw [List.length_map]at hj
  rw [List.getElem_map]
  exact(st_tx (hL _ (List.getElem_mem hj))).1)
 unfold parCt ctTx
 rw [jG]
 have h4:¬4096<(txC c::L.map SP.tx).length:=by simp;omega
 simp only [h4,if_false,zsp hc,hb]
 simp
theorem znr (cm:Nat) (who a sw lf:Int) (s t:Nat→Nat) (pv:Value) (h:∀ k,k<18→s k=t k):stC cm who a sw lf s pv=stC cm who a sw lf t pv:=by
 unfold stC
 simp only [h 0 (by omega),h 1 (by omega),h 2 (by omega),h 3 (by omega),h 4 (by omega),h 5 (by omega),h 6 (by omega),h 7 (by omega),h 8 (by omega),h 9 (by omega),h 10 (by omega),h 11 (by omega),h 12 (by omega),h 13 (by omega),h 14 (by omega),h 15 (by omega),h 16 (by omega),h 17 (by omega)]
theorem zqb {L M:List SP} {w:World} {B:Option Addr} (h:StL ((L.map SP.tx).map stO) M) (hg:∀ S∈L,S.gd) (hM:Sps w B M):∃ M',MvL L M'∧Sps w B M':=by
 have hlen:M.length=L.length:=by have:=h.len;simpa using this
 have each:∀ k (hk:k<L.length),M[k]'(by omega)=(⟨L[k].cm,L[k].who,L[k].at_,L[k].sw,L[k].lf,(fun k'=>(oneL L[k].s).getD k' 0),(M[k]'(by omega)).A,(M[k]'(by omega)).c,L[k].l⟩:SP):=fun k hk=>by
  obtain⟨A,c,e⟩:=h.each k (by simpa using hk) (by omega)
  rw [List.getElem_map,List.getElem_map,(st_tx (hg _ (List.getElem_mem hk))).2]at e
  rw [e]
  rfl
 have hC:∀ k (hk:k<L.length),(M[k]'(by omega)).C=(L[k].mv (M[k]'(by omega)).A (M[k]'(by omega)).c).C:=fun k hk=>by
  have e:=each k hk
  generalize M[k]'(by omega)=T at *
  rw [e]
  exact znr _ _ _ _ _ _ _ _ (fun j hj=>by simp [oneL,hj];rfl)
 refine⟨(L.zip M).map (fun p=>p.1.mv p.2.A p.2.c),⟨by simp [hlen],fun k h1 h2=>⟨(M[k]'(by omega)).A,(M[k]'(by omega)).c,by simp⟩⟩,⟨?_,?_,?_⟩⟩
 ·have hsp:spL ((L.zip M).map (fun p=>p.1.mv p.2.A p.2.c))=spL M:=by
   refine List.ext_getElem (by simp [spL,hlen]) fun k h1 h2=>?_
   have hk:k<L.length:=by simpa [spL,hlen]using h2
   simp only [spL,List.getElem_map,List.getElem_zip]
   rw [hC k hk]
  rw [hsp]
  exact hM.rd
 ·intro S hS
  obtain⟨p,hp,rfl⟩:=List.mem_map.1 hS
  exact SP.mv_ok (hg _ (List.of_mem_zip hp).1).ok _ _
 ·intro S hS
  obtain⟨k,hk,rfl⟩:=List.getElem_of_mem hS
  have hk':k<L.length:=by simpa [hlen]using hk
  have:=hM.at_ (M[k]'(by omega)) (List.getElem_mem _)
  simp only [List.getElem_map,List.getElem_zip]
  have e:=each k hk'
  unfold SP.at at this ⊢
  rw [show(M[k]'(by omega)).l=L[k].l from by rw [e]]at this
  exact this
theorem zky (S T:SP) (hcm:S.cm=T.cm) (hne:S.who≠T.who) (w:World) :
 Calls Tryz.prog 111 #[.agg S.C,.agg T.C] w fun e w'=>e=.returned (.bool false)∧Grew w w':=by
 have z1:=(Ag.new w 91 S.C).grew (ze (za _) (.cells T.C 91))
 have z2:=Ag.new (w.alloc (.cells S.C 91)) 91 T.C
 rw [zD]at z2
 have G0:=ze (ze (za w) (.cells S.C 91)) (.cells T.C 91)
 have x0:((w.alloc (.cells S.C 91)).alloc (.cells T.C 91)).cell? ⟨w.heap.size,0,none⟩=some (.int .u64 (S.cm:Nat)):=by simpa using z1.cell 0 _ rfl
 have x1:((w.alloc (.cells S.C 91)).alloc (.cells T.C 91)).cell? ⟨w.heap.size,1,none⟩=some (.int .i64 S.who):=by simpa using z1.cell 1 _ rfl
 have y0:((w.alloc (.cells S.C 91)).alloc (.cells T.C 91)).cell? ⟨w.heap.size+1,0,none⟩=some (.int .u64 (T.cm:Nat)):=by simpa using z2.cell 0 _ rfl
 have y1:((w.alloc (.cells S.C 91)).alloc (.cells T.C 91)).cell? ⟨w.heap.size+1,1,none⟩=some (.int .i64 T.who):=by simpa using z2.cell 1 _ rfl
 have e0:((S.cm:Int)==(T.cm:Int))=true:=by rw [hcm];simp
 have e1:(S.who==T.who)=false:=by simpa using hne
 clear z1 z2 hcm hne
 generalize S.cm=a0 at *
 generalize T.cm=b0 at *
 generalize S.who=a1 at *
 generalize T.who=b1 at *
 generalize S.C=gs at *
 generalize T.C=gt at *
 go_enter Tryz.func111,Tryz.ntmps111
 go_wp2_with fail
 go_ret
 exact⟨rfl,G0⟩
theorem zns (A B:Option Addr) (c c':Nat) (L M:List SP) (hl:L.length≤100000) (hml:M.length=L.length) (S T:SP) (hs0:L[0]?=some S) (ht0:M[0]?=some T) (hcm:S.cm=T.cm) (hne:S.who≠T.who) (w:World) (hL:Sps w A L) (hM:Sps w B M) :
 Calls Tryz.prog 110 #[.slice A L.length c,.slice B L.length c',.func (.func 111) #[] #[]] w fun e w'=>e=.returned (.bool false)∧Grew w w':=by
 have hut:=Tryz.underlying91
 have hrL:=hL.rd
 have hrM:=hM.rd
 have HL:=hQ9 hL
 have HM:=hQ9 hM
 have HSS:=hQ9 (fun W=>zky S T hcm hne W)
 have HSO:Hid (L[0]?=some S):=hQ9 hs0
 have HTO:Hid (M[0]?=some T):=hQ9 ht0
 have HML:Hid (M.length=L.length):=hQ9 hml
 have e0:((L.length:Int) != (L.length:Int))=false:=by simp
 clear hL hM hml hs0 ht0 hcm hne
 go_enter Tryz.func110,Tryz.ntmps110
 go_wp2_with fail
 clear e0
 go_loopw [17] (fun iv wr=>∃ i:Nat,i=0∧iv=.int .i64 i∧Grew w wr) (fun iv _=>L.length-(Go.RowKit.intOf iv).toNat)
 case atStart=>exact⟨0,rfl,rfl,Below.refl _ _⟩
 case round =>
  obtain⟨i,hil,rfl,hg⟩:=hrel
  have hS:L[i]?=some S:=by rw [hil];exact HSO.out
  have hT:M[i]?=some T:=by rw [hil];exact HTO.out
  clear hil
  by_cases hlt:i<L.length
  ·have hltM:i<M.length:=by have:=HML.out;omega
   obtain⟨q,hA,hq,hm1⟩:=RdC.at24 hrL hg i hlt
   obtain⟨r,hB,hr,hm2⟩:=RdC.at24 hrM hg i hltM
   subst hA
   subst hB
   rw [List.getElem?_eq_getElem hlt]at hS
   rw [List.getElem?_eq_getElem hltM]at hT
   injection hS with hS
   injection hT with hT
   rw [hS]at hm1
   rw [hT]at hm2
   clear hS hT
   have hi0:(0:Int)≤(i:Int):=by omega
   have hi1:(i:Int)<(L.length:Int):=by omega
   have e4:IntKind.i64.wrap ((i:Int)+1)=(i:Int)+1:=IntWalk.i64_in _ (by omega)
   obtain⟨w2,hw2,ht2,g2,z2⟩:=yO wr S.C rfl
   obtain⟨w3,hw3,ht3,g3,z3⟩:=yO w2 T.C rfl
   have HW2:=hQ9 hw2
   have HT2:=hQ9 ht2
   have HW3:=hQ9 hw3
   have HT3:=hQ9 ht3
   have CS:=hQ9 (HSS.out w3)
   have SIS:Hid ((Tryz.prog.info? 91).map (·.size)=some S.C.toList.length):=hQ9 zy
   have SIZ:Hid ((Tryz.prog.info? 91).map (·.size)=some S.C.size):=hQ9 zy
   have HON:=hQ9 S.one
   have SIT:Hid ((Tryz.prog.info? 91).map (·.size)=some T.C.toList.length):=hQ9 zy
   have SIY:Hid ((Tryz.prog.info? 91).map (·.size)=some T.C.size):=hQ9 zy
   have HOT:=hQ9 T.one
   have hk1:=(z2.grew g3).cell
   have hk2:=z3.cell
   have hm2':=kV hm2 hr g2
   have G3:=zc hg (zc g2 g3)
   clear hw2 ht2 hw3 ht3 z2 z3 hm2 g2 g3 hg
   go_wp2_with(first
    | (with_reducible refine wpList_load_mid rfl 91 (.tmp 20) rfl q (i*24) rfl S.C.toList _ hm1 hut rfl SIS.out ?_;simp only [Array.toArray_toList])
    | (with_reducible refine wpList_store_mid rfl 91 (.tmp 8) (.tmp 21) rfl wr.heap.size 0 S.C rfl rfl HT2.out SIZ.out HON.out ?_;rw [HW2.out])
    | (with_reducible refine wpList_load_mid rfl 91 (.tmp 24) rfl r (i*24) rfl T.C.toList _ hm2' hut rfl SIT.out ?_;simp only [Array.toArray_toList])
    | (with_reducible refine wpList_store_mid rfl 91 (.tmp 9) (.tmp 25) rfl w2.heap.size 0 T.C rfl rfl HT3.out SIY.out HOT.out ?_;rw [HW3.out])
    | (with_reducible refine wpList_load_mid rfl 91 (.tmp 8) rfl wr.heap.size 0 rfl S.C.toList _ hk1 hut rfl SIS.out ?_;simp only [Array.toArray_toList])
    | (with_reducible refine wpList_load_mid rfl 91 (.tmp 9) rfl w2.heap.size 0 rfl T.C.toList _ hk2 hut rfl SIT.out ?_;simp only [Array.toArray_toList]))
   refine(CS.out).mono ?_
   rintro e w4 ⟨rfl,gg⟩
   go_wp2_with fail
   go_ret
   exact⟨rfl,zc G3 gg⟩
  ·rw [List.getElem?_eq_none (by omega)]at hS
   cases hS
theorem znt (c:Cm) (A B:Option Addr) (k k':Nat) (L M:List SP) (hl:L.length≤100000) (hml:M.length=L.length) (S T:SP) (hs0:L[0]?=some S) (ht0:M[0]?=some T) (hcm:S.cm=T.cm) (hne:S.who≠T.who) (w:World) (hL:Sps w A L) (hM:Sps w B M) :
 Calls Tryz.prog 32 #[.agg (ctC c A L.length k),.agg (ctC c B L.length k')] w fun e w'=>e=.returned (.bool false)∧Grew w w':=by
 have huc:=Tryz.underlying33
 have SIC:Hid ((Tryz.prog.info? 33).map (·.size)=some c.cells.toList.length):=hQ9 (show _=some 5 by kernel_rfl)
 have z0:=(Ag.new w 36 (ctC c A L.length k)).grew (ze (za _) (.cells (ctC c B L.length k') 36))
 have z1:=Ag.new (w.alloc (.cells (ctC c A L.length k) 36)) 36 (ctC c B L.length k')
 rw [zD]at z1
 have G0:=ze (ze (za w) (.cells (ctC c A L.length k) 36)) (.cells (ctC c B L.length k') 36)
 have CE:=hQ9 (zns A B k k' L M hl hml S T hs0 ht0 hcm hne _ (hL.gr G0) (hM.gr G0))
 have hm1:=yQ z0
 have hm2:=yQ z1
 have hc1:((w.alloc (.cells (ctC c A L.length k) 36)).alloc (.cells (ctC c B L.length k') 36)).cell? ⟨w.heap.size,5,none⟩=some (.slice A L.length k):=by simpa using z0.cell 5 _ rfl
 have hc2:((w.alloc (.cells (ctC c A L.length k) 36)).alloc (.cells (ctC c B L.length k') 36)).cell? ⟨w.heap.size+1,5,none⟩=some (.slice B L.length k'):=by simpa using z1.cell 5 _ rfl
 have HEQ:∀ W,(Op.equalIn 10000 33 (.agg c.cells) (.agg c.cells)).run Tryz.prog W=.ok true W:=fun W=>by
  have:=cm_eq c c W
  rw [show c.v=.agg c.cells from rfl]at this
  simpa using this
 clear z0 z1 hL hM hml hs0 ht0 hcm hne
 generalize ctC c A L.length k=ga at *
 generalize ctC c B L.length k'=gb at *
 generalize c.cells=gc at *
 go_enter Tryz.func32,Tryz.ntmps32
 go_wp2_with(first
  | (with_reducible refine wpList_load_mid rfl 33 (.tmp 5) rfl w.heap.size 0 rfl gc.toList _ hm1 huc rfl SIC.out ?_;simp only [Array.toArray_toList])
  | (with_reducible refine wpList_load_mid rfl 33 (.tmp 7) rfl (w.heap.size+1) 0 rfl gc.toList _ hm2 huc rfl SIC.out ?_;simp only [Array.toArray_toList]))
 refine(CE.out).mono ?_
 rintro e w1 ⟨rfl,gg⟩
 go_wp2_with fail
 go_ret
 exact⟨rfl,zc G0 gg⟩
theorem zsq:(Tryz.prog.info? 33).map (·.size)=some 5:=by kernel_rfl
theorem zg6 (n:Int) (w:World):Calls Tryz.prog 44 #[.int .i64 n] w fun e w'=>e=.returned (.agg (cm12 n).cells)∧Grew w w':=by
 show Calls _ _ _ _ fun e w'=>e=.returned (.agg #[.int .i64 1,.int .i64 n,.int .i64 2,.int .i64 3,.int .i64 4])∧Grew w w'
 have z0:=Ag.new w 33 #[.int .i64 0,.int .i64 0,.int .i64 0,.int .i64 0,.int .i64 0]
 have g0:=ze (za w) (.cells #[.int .i64 0,.int .i64 0,.int .i64 0,.int .i64 0,.int .i64 0] 33)
 have hut:=Tryz.underlying33
 have hi5:=zsq
 have zf:=Ag.set (vs:=(#[.int .i64 1,.int .i64 n,.int .i64 2,.int .i64 3,.int .i64 4]:Array Value).toList) z0 rfl
 have Gf:=zg (o:=0) (b:=w.heap.size) (#[.int .i64 1,.int .i64 n,.int .i64 2,.int .i64 3,.int .i64 4]:Array Value).toList g0 (Nat.le_refl _)
 go_enter Tryz.func44,Tryz.ntmps44
 go_wp2_with(refine wpList_store_mid rfl 33 (.tmp 2) (.tmp 4) rfl w.heap.size 0 #[.int .i64 1,.int .i64 n,.int .i64 2,.int .i64 3,.int .i64 4] rfl rfl (z0.thereN 5 rfl) hi5 (by simp [Value.oneCell']) ?_)
 exact bodyPost_ret (yp Tryz.results44 _ _ w.heap.size _ _ rfl zf hut rfl hi5) rfl ⟨rfl,Gf⟩
end Go.Proofs.YtpppegnojmnicaaGreatDoor
