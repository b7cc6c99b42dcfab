/- ack.Valid; the reference's ValidAck (mkakd.py). -/
import Derived.Test.YtkpnheenacchhaaGreatDoorPzz
import Derived.Test.YtkpnheenacchhaaGreatDoorPbl
import Derived.Test.YtkpnheenacchhaaGreatDoorPbi
import Derived.Test.YtkpnheenacchhaaGreatDoorPbh
import Derived.Test.YtkpnheenacchhaaGreatDoorPbd
set_option maxHeartbeats 4000000
set_option maxRecDepth 100000
set_option linter.unusedSimpArgs false
set_option linter.unusedVariables false
namespace Go.Proofs.YtkpnheenacchhaaGreatDoor
open Go.RowKit
theorem zg8 (cm:Nat) (who sw lf:Int) (s:Nat→Nat) (A:Option Addr) (n c:Nat):Array.foldl (fun(cs:Array Value) (x:Value × Nat)=>cs.setIfInBounds x.snd x.fst) (#[.int .u64 0,.int .i64 0,.int .i64 0,.int .i64 0,.int .u64 0,.int .u64 0,.int .u64 0,.int .u64 0,.int .u64 0,.int .u64 0,.int .u64 0,.int .u64 0,.int .u64 0,.int .u64 0,.int .u64 0,.int .u64 0,.int .u64 0,.int .u64 0,.int .u64 0,.int .u64 0,.int .u64 0,.int .u64 0,.slice none 0 0]) (akC cm who sw lf s (.slice A n c)).zipIdx 0 23=akC cm who sw lf s (.slice A n c):=by kernel_rfl
noncomputable def kvE (f:Int) (R:List Nat) (h:Int) (cm:Nat) (who sw lf:Int) (s:Nat→Nat) (l:List Nat):Int :=
 if who<0 then 1 else if 3*f+1≤who then 1 else ckE R h who.toNat (akD cm who) sw lf s l
theorem ziv (f:Int) (hf:1≤f∧f≤3) (R:List Nat) (RA:Option Addr) (Rc:Nat) (h:Int) (cm:Nat) (who sw lf:Int) (s:Nat→Nat) (A:Option Addr) (c:Nat) (l:List Nat) (hc:cm<18446744073709551616) (hw:in64 who) (hsw:in64 sw) (hlf:in64 lf) (hl:l.length≤1000) (hs:∀ k,k<18→s k<18446744073709551616) (hb:∀ x∈l,x<18446744073709551616)
 (hRl:R.length≤1000) (hRb:∀ x∈R,x<18446744073709551616) (w:World) (hS:Std w) (hrR:Rd w w.heap.size RA (u64L R)) (hrl:Rd w w.heap.size A (u64L l)) :
 Calls Tryz.prog 35 #[.agg (kyS f RA R.length Rc h),.agg (akC cm who sw lf s (.slice A l.length c))] w fun e w'=>e=.returned (.int .i64 (kvE f R h cm who sw lf s l))∧Grew w w':=by
 have hut:=Tryz.underlying79
 have huf:=Tryz.underlying89
 have HST:Hid (zI9 79=some (akC cm who sw lf s (.slice A l.length c)).toList.length):=hQ9 zJ
 have HCF:Hid (zI9 89=some [Value.int .i64 f].length):=hQ9 (by kernel_rfl)
 have CN:=hQ9 (fun W=>qn_ok f hf W)
 have zk:=(Ag.new w 91 (kyS f RA R.length Rc h)).grew (ze (za _) (.cells (akC cm who sw lf s (.slice A l.length c)) 79))
 have zs:Ag ((w.alloc (.cells (kyS f RA R.length Rc h) 91)).alloc (.cells (akC cm who sw lf s (.slice A l.length c)) 79)) (w.heap.size+1) (akC cm who sw lf s (.slice A l.length c)).toList:=by
  have:=Ag.new (w.alloc (.cells (kyS f RA R.length Rc h) 91)) 79 (akC cm who sw lf s (.slice A l.length c))
  simpa using this
 have G1:=ze (ze (za w) (.cells (kyS f RA R.length Rc h) 91)) (.cells (akC cm who sw lf s (.slice A l.length c)) 79)
 have HS:=hQ9 hS
 have HR:=hQ9 hrR
 have HL:=hQ9 hrl
 have HRb:=hQ9 hRb
 have HB:=hQ9 hb
 have HSS:=hQ9 hs
 have h3f:(4:Int)≤3*f+1∧3*f+1≤10:=by omega
 have HF:=hQ9 hf
 clear hS hrR hrl hRb hb hs hf
 go_enter Tryz.func35,Tryz.ntmps35
 go_wp2_with fail
 generalize (w.alloc (.cells (kyS f RA R.length Rc h) 91)).alloc (.cells (akC cm who sw lf s (.slice A l.length c)) 79)=w1 at *
 have m1:∀ y:Gr w1,y.val.cell? ⟨w.heap.size+1,1,none⟩=some (.int .i64 who):=fun y=>by simpa using (zs.gr y).cell 1 _ rfl
 have qf:Hid (∀ y:Gr w1,y.val.rangeAt w.heap.size 0 [.int .i64 f]):=hQ9 (fun y j v hj=>by
  have hj0:j=0:=by have:=(List.getElem?_eq_some_iff.1 hj).1;simpa using this
  subst hj0
  have h0:v=.int .i64 f:=by simpa using hj.symm
  rw [h0]
  exact(zk.gr y).cell 0 _ rfl)
 obtain⟨nn,hnn⟩:∃ nn,3*f+1=nn:=⟨_,rfl⟩
 rw [hnn]at CN h3f
 have HNN:=hQ9 hnn
 clear hnn
 by_cases hA:who<0
 ·have HE:Hid (kvE f R h cm who sw lf s l=1):=hQ9 (by unfold kvE;rw [if_pos hA])
  refine zg (za w1) (by kernel_rfl) (by kernel_rfl) ?_
  repeat (first
   | (go_big_quiet_want;refine zi 89 (.tmp 11) rfl w.heap.size 0 rfl [.int .i64 f] _ qf.out huf rfl HCF.out ?_;simp only [Act.put,List.setIfInBounds_toArray,List.set_cons_succ,List.set_cons_zero,zT9];go_big_quiet_on)
   | (go_big_quiet_step ((go_at_call 97;exact callG (CN.out _)))))
  refine wpQuiet_nil ?_
  rintro w8 ⟨⟨w8',g8⟩,rfl⟩
  have G8:=zb G1 g8
  go_wp2_with fail
  go_ret
  exact⟨by rw [HE.out];rfl,G8⟩
 by_cases hB:nn≤who
 ·have HE:Hid (kvE f R h cm who sw lf s l=1):=hQ9 (by unfold kvE;rw [if_neg hA,HNN.out,if_pos hB])
  refine zg (za w1) (by kernel_rfl) (by kernel_rfl) ?_
  repeat (first
   | (go_big_quiet_want;refine zi 89 (.tmp 11) rfl w.heap.size 0 rfl [.int .i64 f] _ qf.out huf rfl HCF.out ?_;simp only [Act.put,List.setIfInBounds_toArray,List.set_cons_succ,List.set_cons_zero,zT9];go_big_quiet_on)
   | (go_big_quiet_step ((go_at_call 97;exact callG (CN.out _)))))
  refine wpQuiet_nil ?_
  rintro w8 ⟨⟨w8',g8⟩,rfl⟩
  have G8:=zb G1 g8
  go_wp2_with fail
  go_ret
  exact⟨by rw [HE.out];rfl,G8⟩
 have HE:Hid (kvE f R h cm who sw lf s l=ckE R h who.toNat (akD cm who) sw lf s l):=hQ9 (by unfold kvE;rw [if_neg hA,HNN.out,if_neg hB])
 obtain⟨n,rfl⟩:=Int.eq_ofNat_of_zero_le (show 0≤who by omega)
 rw [Int.toNat_natCast]at HE
 refine zg (za w1) (by kernel_rfl) (by kernel_rfl) ?_
 repeat (first
  | (go_big_quiet_want;refine zi 89 (.tmp 11) rfl w.heap.size 0 rfl [.int .i64 f] _ qf.out huf rfl HCF.out ?_;simp only [Act.put,List.setIfInBounds_toArray,List.set_cons_succ,List.set_cons_zero,zT9];go_big_quiet_on)
  | (go_big_quiet_step ((go_at_call 97;exact callG (CN.out _)))))
 refine wpQuiet_nil ?_
 rintro w8 ⟨⟨w8',g8⟩,rfl⟩
 have G8:=zb G1 g8
 have zk8:=zk.grew g8
 have zs8:=zs.grew g8
 have hk1:w8.cell? ⟨w.heap.size,1,none⟩=some (.slice RA R.length Rc):=by simpa using zk8.cell 1 _ rfl
 have hk2:w8.cell? ⟨w.heap.size,2,none⟩=some (.int .i64 h):=by simpa using zk8.cell 2 _ rfl
 have hm:=zs8.cell
 have hsz:(akC cm (n:Int) sw lf s (.slice A l.length c)).size=23:=rfl
 clear m1 qf
 go_wp2_with(with_reducible refine wpList_load_mid rfl 79 (.tmp 3) rfl (w.heap.size+1) 0 rfl (akC cm (n:Int) sw lf s (.slice A l.length c)).toList _ hm hut rfl HST.out ?_;simp only [zT9])
 rw [zg8]
 have GA:=ze (za w8) (.cells (akC cm (n:Int) sw lf s (.slice A l.length c)) 79)
 have zq:=Ag.new w8 79 (akC cm (n:Int) sw lf s (.slice A l.length c))
 have G9:=zb G8 GA
 refine(zio R RA Rc h cm n sw lf s A c l hc hw hsw hlf hl HSS.out HB.out hRl HRb.out w8.heap.size _ (HS.out.grew G9) (HR.out.gr G9) (HL.out.gr G9) zq.cell zq.lt).mono ?_
 rintro e w9 ⟨rfl,gg⟩
 go_wp2_with fail
 go_ret
 exact⟨by rw [HE.out];rfl,zb G9 gg⟩
theorem zf7 (f:Int) (hf:1≤f∧f≤3) (R:List Nat) (RA:Option Addr) (Rc:Nat) (h:Int) (cm:Nat) (who sw lf:Int) (s:Nat→Nat) (A:Option Addr) (c:Nat) (l:List Nat) (hc:cm<18446744073709551616) (hw:in64 who) (hsw:in64 sw) (hlf:in64 lf) (hl:l.length≤1000) (hs:∀ k,k<18→s k<18446744073709551616) (hb:∀ x∈l,x<18446744073709551616)
 (hRl:R.length≤1000) (w:World) (hS:Std w) (hrR:Rd w w.heap.size RA (u64L R)) (hrl:Rd w w.heap.size A (u64L l)) :
 Calls Tryz.prog 37 #[.agg (kyS f RA R.length Rc h),.agg (akC cm who sw lf s (.slice A l.length c))] w fun e w'=>e=.returned (.int .i64 (kvE f R h cm who sw lf s l))∧Grew w w':=by
 have huk:=Tryz.underlying64
 have hug:=Tryz.underlying68
 have HSK:Hid (zI9 64=some (kyS f RA R.length Rc h).toList.length):=hQ9 ku
 have HSG:Hid (zI9 68=some (sgC sw lf s (.slice A l.length c)).toList.length):=hQ9 yI
 have z1:=(Ag.new w 64 (kyS f RA R.length Rc h)).grew (ze (za _) (.cells (akC cm who sw lf s (.slice A l.length c)) 70))
 have z2:=Ag.new (w.alloc (.cells (kyS f RA R.length Rc h) 64)) 70 (akC cm who sw lf s (.slice A l.length c))
 rw [zl]at z2
 have G0:=ze (ze (za w) (.cells (kyS f RA R.length Rc h) 64)) (.cells (akC cm who sw lf s (.slice A l.length c)) 70)
 have b1:((w.alloc (.cells (kyS f RA R.length Rc h) 64)).alloc (.cells (akC cm who sw lf s (.slice A l.length c)) 70)).cell? ⟨w.heap.size+1,1,none⟩=some (.int .i64 who):=by simpa using z2.cell 1 _ rfl
 have hm:=z1.cell
 have CW:=hQ9 (fun W=>zg7 f hf RA R.length Rc h who W)
 have HRR:=hQ9 hrR
 have HLL:=hQ9 hrl
 have HS:=hQ9 hS
 clear hrR hrl hS
 by_cases hA:0≤who∧who<3*f+1
 case neg =>
  have HE:Hid (kvE f R h cm who sw lf s l=1):=hQ9 (by
   unfold kvE
   by_cases h0:who<0
   ·rw [if_pos h0]
   ·rw [if_neg h0,if_pos (by omega)])
  rw [show whB f who=false from zF9 hA]at CW
  clear hs hb hA
  go_enter Tryz.func37,Tryz.ntmps37
  go_wp2_with(first
   | (with_reducible refine wpList_load_mid rfl 64 (.tmp 2) rfl w.heap.size 0 rfl (kyS f RA R.length Rc h).toList _ hm huk rfl HSK.out ?_;simp only [zT9]))
  refine(CW.out _).mono ?_
  rintro e w2 ⟨rfl,gg⟩
  have G2:=zb G0 gg
  have y1:=z1.grew gg
  have y2:=z2.grew gg
  clear hm z1 z2 gg CW G0
  go_wp2_with fail
  go_ret
  exact⟨by rw [HE.out];rfl,G2⟩
 rw [show whB f who=true from decide_eq_true hA]at CW
 have HE0:Hid (kvE f R h cm who sw lf s l=ckE R h who.toNat (akD cm who) sw lf s l):=hQ9 (by unfold kvE;rw [if_neg (by omega),if_neg (by omega)])
 obtain⟨n,rfl⟩:=Int.eq_ofNat_of_zero_le hA.1
 have HE:Hid (kvE f R h cm (n:Int) sw lf s l=ckE R h n (akD cm (n:Int)) sw lf s l):=hQ9 (by rw [HE0.out];simp)
 have CS:=hQ9 (fun W h1 h2=>zbb f R RA Rc h n (akD cm (n:Int)) sw lf s A c l (by omega) hlf hl hs hb (zeo _ _) hRl W h1 h2)
 have CD:=hQ9 (fun W=>zeu cm (n:Int) hc hw W)
 have H07:=hQ9 (zkw R h n (akD cm (n:Int)) sw lf s l)
 clear HE0 hs hb hA
 generalize akD cm (n:Int)=d at *
 generalize ckE R h n d sw lf s l=ck at *
 obtain⟨bk,hbk⟩:∃ b,decide (ck=0)=b:=⟨_,rfl⟩
 rw [hbk]at CS
 have HBK:=hQ9 hbk
 clear hbk
 go_enter Tryz.func37,Tryz.ntmps37
 go_wp2_with(first
  | (with_reducible refine wpList_load_mid rfl 64 (.tmp 2) rfl w.heap.size 0 rfl (kyS f RA R.length Rc h).toList _ hm huk rfl HSK.out ?_;simp only [zT9]))
 refine(CW.out _).mono ?_
 rintro e w2 ⟨rfl,gg⟩
 have G2:=zb G0 gg
 have y1:=z1.grew gg
 have y2:=z2.grew gg
 clear hm z1 z2 gg CW G0
 have M1:Hid (∀ y:Gr w2,y.val.rangeAt w.heap.size 0 (kyS f RA R.length Rc h).toList):=hQ9 (fun y=>(y1.gr y).cell)
 have M2:Hid (∀ y:Gr w2,y.val.rangeAt (w.heap.size+1) 2 (sgC sw lf s (.slice A l.length c)).toList):=hQ9 (fun y=>x7 (y2.gr y).cell)
 have RR:Hid (∀ y:Gr w2,Rd y.val y.val.heap.size RA (u64L R)):=hQ9 (fun y=>(HRR.out.gr G2).gr y.ok)
 have RL:Hid (∀ y:Gr w2,Rd y.val y.val.heap.size A (u64L l)):=hQ9 (fun y=>(HLL.out.gr G2).gr y.ok)
 have SS:Hid (∀ y:Gr w2,Std y.val):=hQ9 (fun y=>HS.out.grew (zb G2 y.ok))
 have q0:∀ y:Gr w2,y.val.cell? ⟨w.heap.size+1,0,none⟩=some (.int .u64 (cm:Nat)):=fun y=>by simpa using (y2.gr y).cell 0 _ rfl
 have q1:∀ y:Gr w2,y.val.cell? ⟨w.heap.size+1,1,none⟩=some (.int .i64 (n:Int)):=fun y=>by simpa using (y2.gr y).cell 1 _ rfl
 clear y1 y2 HRR HLL HS
 go_wp2_with fail
 refine zg (za w2) (by kernel_rfl) (by kernel_rfl) ?_
 repeat (first
  | (go_big_quiet_want;refine zi 64 (.tmp 2) rfl w.heap.size 0 rfl (kyS f RA R.length Rc h).toList _ M1.out huk rfl HSK.out ?_;simp only [Act.put,List.setIfInBounds_toArray,List.set_cons_succ,List.set_cons_zero,zT9];go_big_quiet_on)
  | (go_big_quiet_want;refine zi 68 (.tmp 13) rfl (w.heap.size+1) 2 rfl (sgC sw lf s (.slice A l.length c)).toList _ M2.out hug rfl HSG.out ?_;simp only [Act.put,List.setIfInBounds_toArray,List.set_cons_succ,List.set_cons_zero,zT9];go_big_quiet_on)
  | (go_big_quiet_step (first
   | (go_at_call 39;exact callG (CD.out _))
   | (go_at_call 102;exact callG (CS.out _ (RR.out _) (RL.out _))))))
 refine wpQuiet_nil ?_
 rintro w8 ⟨⟨w8',g8⟩,rfl⟩
 cases bk
 ·have HK:Hid (ck=7):=hQ9 (by
   rcases H07.out with hk | hk
   ·have:=HBK.out;simp [hk]at this
   ·exact hk)
  clear HBK
  go_wp2_with fail
  go_ret
  exact⟨by rw [HE.out,HK.out];rfl,zb G2 g8⟩
 ·have HK:Hid (ck=0):=hQ9 (of_decide_eq_true HBK.out)
  clear HBK
  go_wp2_with fail
  go_ret
  exact⟨by rw [HE.out,HK.out];rfl,zb G2 g8⟩
structure AkR where
 cm:Nat
 who:Int
 g:(Int × Int) × (Nat→Nat) × List Nat
def AkR.zero:AkR:=⟨0,0,((0,0),fun _=>0,[])⟩
def AkR.v (r:AkR) (pv:Value):Array Value:=akC r.cm r.who r.g.1.1 r.g.1.2 r.g.2.1 pv
def ak3 (x0 x1 x2:List UInt8):Bool:=decide ((pnum x1).2=0)&&smallB (pnum x1).1&&(parseO x0).isSome&&(sigP x2).isSome
def akF (x0 x1 x2:List UInt8):AkR:=⟨(parseO x0).getD 0,(pnum x1).1,sgO (sigP x2)⟩
def akO (S:List UInt8):AkR:=match splitF S with
 | some [x0,x1,x2]=>if ak3 x0 x1 x2=true then akF x0 x1 x2 else .zero
 | _=>.zero
def akE (S:List UInt8):Int:=match splitF S with
 | none=>2
 | some l=>if 4096<l.length then 4 else match l with
  | [x0,x1,x2]=>if ak3 x0 x1 x2=true then 0 else 2
  | _=>2
theorem znl {S:List UInt8} (h:splitF S=none):akE S=2∧akO S=.zero:=by unfold akE akO;rw [h];exact⟨rfl,rfl⟩
theorem znm {S:List UInt8} {l:List (List UInt8)} (h:splitF S=some l) (hl:4096<l.length):akE S=4∧akO S=.zero:=by
 unfold akE akO
 rw [h]
 refine⟨by simp [hl],?_⟩
 match l,hl with
 | [],hl=>rfl
 | [_],hl=>rfl
 | [_,_],hl=>rfl
 | [_,_,_],hl=>simp at hl
 | _::_::_::_::_,hl=>rfl
theorem zpe {S:List UInt8} {l:List (List UInt8)} (h:splitF S=some l) (hl:l.length≤4096) (h4:l.length≠3):akE S=2∧akO S=.zero:=by
 unfold akE akO
 rw [h]
 match l,hl,h4 with
 | [],hl,h4=>exact⟨rfl,rfl⟩
 | [_],hl,h4=>exact⟨rfl,rfl⟩
 | [_,_],hl,h4=>exact⟨rfl,rfl⟩
 | [_,_,_],hl,h4=>exact absurd rfl h4
 | _::_::_::_::_,hl,h4=>exact⟨by simp only [if_neg (Nat.not_lt.2 hl)],rfl⟩
theorem zcr {S:List UInt8} {x0 x1 x2:List UInt8} (h:splitF S=some [x0,x1,x2]):akE S=(if ak3 x0 x1 x2=true then 0 else 2)∧akO S=if ak3 x0 x1 x2=true then akF x0 x1 x2 else .zero:=by
 unfold akE akO
 rw [h]
 exact⟨by simp,rfl⟩
def AkR.t (r:AkR):List UInt8:=akT r.cm r.who r.g.1.1 r.g.1.2 r.g.2.1 r.g.2.2
theorem zbw:Tryz.prog.built 79 []=some (#[.int .u64 0,.int .i64 0,.int .i64 0,.int .i64 0,.int .u64 0,.int .u64 0,.int .u64 0,.int .u64 0,.int .u64 0,.int .u64 0,.int .u64 0,.int .u64 0,.int .u64 0,.int .u64 0,.int .u64 0,.int .u64 0,.int .u64 0,.int .u64 0,.int .u64 0,.int .u64 0,.int .u64 0,.int .u64 0,.slice none 0 0]):=by kernel_rfl
theorem zda (tj:ByteArray) (hz:tj.size≤1000000) (hno:∀ x0 x1 x2,splitF tj.data.toList≠some [x0,x1,x2]) (w:World) :
 Calls Tryz.prog 31 #[.string tj] w fun e w'=>(∃ A c,e=.returned (.tuple #[.agg ((akO tj.data.toList).v (.slice A (akO tj.data.toList).g.2.2.length c)),.int .i64 (akE tj.data.toList)])∧Rd w' w'.heap.size A (u64L (akO tj.data.toList).g.2.2)∧(∀ ad,A=some ad→w.heap.size<ad.block))∧Grew w w':=by
 have hut:=Tryz.underlying79
 have hus:=Tryz.underlying77
 have bz:∀ W,(Instr.build 79 #[]).run Tryz.prog W=.ok (.agg (#[.int .u64 0,.int .i64 0,.int .i64 0,.int .i64 0,.int .u64 0,.int .u64 0,.int .u64 0,.int .u64 0,.int .u64 0,.int .u64 0,.int .u64 0,.int .u64 0,.int .u64 0,.int .u64 0,.int .u64 0,.int .u64 0,.int .u64 0,.int .u64 0,.int .u64 0,.int .u64 0,.int .u64 0,.int .u64 0,.slice none 0 0])) W:=fun W=>run_build W 79 #[] _ zbw
 have HSI:Hid (zI9 79=some (zA23:Array Value).size):=hQ9 zJ
 have HSIL:Hid (zI9 79=some (zA23:Array Value).toList.length):=hQ9 zJ
 have HON:Hid ((#[.int .u64 0,.int .i64 0,.int .i64 0,.int .i64 0,.int .u64 0,.int .u64 0,.int .u64 0,.int .u64 0,.int .u64 0,.int .u64 0,.int .u64 0,.int .u64 0,.int .u64 0,.int .u64 0,.int .u64 0,.int .u64 0,.int .u64 0,.int .u64 0,.int .u64 0,.int .u64 0,.int .u64 0,.int .u64 0,.slice none 0 0]:Array Value).all (·.oneCell')=true):=hQ9 (by simp [Value.oneCell'])
 have z0:=Ag.new w 79 (zA23)
 have g0:=ze (za w) (.cells (zA23) 79)
 have CS:=hQ9 (fun W=>zac tj (by omega) W)
 go_enter Tryz.func31,Tryz.ntmps31
 go_wp2_with fail
 refine(CS.out _).mono ?_
 rintro e w1 ⟨hs,gg⟩
 have z1:=z0.grew gg
 have g1:=zb g0 gg
 have HTH:Hid (w1.there w.heap.size 0 (zA23:Array Value).size):=hQ9 (z1.thereN 23 rfl)
 have zZ:=Ag.set (vs:=(zA23:Array Value).toList) z1 rfl
 have gZ:=zh (o:=0) (b:=w.heap.size) (zA23:Array Value).toList g1 (zN9 _)
 clear CS z0 g0 gg z1 g1
 rcases hs with ⟨h1,rfl⟩ | ⟨l,h1,⟨h2,rfl⟩ | ⟨h2,v,rfl,o1⟩⟩
 ·have HE:=hQ9 (znl h1)
  clear h1
  go_wp2_with(first
   | (with_reducible refine wpList_store_mid rfl 79 (.tmp 2) (.tmp 16) rfl w.heap.size 0 (zA23) rfl rfl HTH.out HSI.out HON.out ?_))
  exact bodyPost_ret (zw Tryz.results31 _ _ w.heap.size _ _ _ rfl rfl zZ hut rfl HSIL.out) rfl ⟨⟨none,0,by rw [HE.out.1,HE.out.2];rfl,by rw [HE.out.2];exact fun k hk=>absurd hk (by simp [AkR.zero,u64L]),fun ad h=>by cases h⟩,gZ⟩
 ·have HE:=hQ9 (znm h1 h2)
  clear h1 h2
  go_wp2_with(first
   | (with_reducible refine wpList_store_mid rfl 79 (.tmp 2) (.tmp 16) rfl w.heap.size 0 (zA23) rfl rfl HTH.out HSI.out HON.out ?_))
  exact bodyPost_ret (zw Tryz.results31 _ _ w.heap.size _ _ _ rfl rfl zZ hut rfl HSIL.out) rfl ⟨⟨none,0,by rw [HE.out.1,HE.out.2];rfl,by rw [HE.out.2];exact fun k hk=>absurd hk (by simp [AkR.zero,u64L]),fun ad h=>by cases h⟩,gZ⟩
 ·have hl4:l.length≠3:=fun h4=>by
   match l,h4 with
   | [a,b,c],_=>exact hno a b c h1
  have HE:=hQ9 (zpe h1 h2 hl4)
  obtain⟨A4,c4,rfl,-,-,-⟩:=zU o1
  have e4:((l.length:Int) != 3)=true:=by simp;omega
  clear o1 h1 h2 hl4
  go_wp2_with(first
   | (with_reducible refine wpList_store_mid rfl 79 (.tmp 2) (.tmp 21) rfl w.heap.size 0 (zA23) rfl rfl HTH.out HSI.out HON.out ?_))
  exact bodyPost_ret (zw Tryz.results31 _ _ w.heap.size _ _ _ rfl rfl zZ hut rfl HSIL.out) rfl ⟨⟨none,0,by rw [HE.out.1,HE.out.2];rfl,by rw [HE.out.2];exact fun k hk=>absurd hk (by simp [AkR.zero,u64L]),fun ad h=>by cases h⟩,gZ⟩
theorem zdb (tj:ByteArray) (x0 x1 x2:List UInt8) (hsp:splitF tj.data.toList=some [x0,x1,x2]) (hz:tj.size≤1000000) (l0:x0.length≤1000000) (l1:x1.length≤1000000) (l2:x2.length≤1000000) (w:World) (hS:Std w) :
 Calls Tryz.prog 31 #[.string tj] w fun e w'=>(∃ A c,e=.returned (.tuple #[.agg ((akO tj.data.toList).v (.slice A (akO tj.data.toList).g.2.2.length c)),.int .i64 (akE tj.data.toList)])∧Rd w' w'.heap.size A (u64L (akO tj.data.toList).g.2.2)∧(∀ ad,A=some ad→w.heap.size<ad.block))∧Grew w w':=by
 have HS:=hQ9 hS
 have HE0:=zcr hsp
 have CS:=hQ9 (fun W=>jr (s:=tj) (l:=[x0,x1,x2]) hsp (by simp) (by omega) W)
 rw [show txt [x0,x1,x2]=[⟨x0.toArray⟩,⟨x1.toArray⟩,⟨x2.toArray⟩] from rfl]at CS
 have N1:=(fun W hW=>qK ⟨x1.toArray⟩ (by show x1.toArray.size≤_;simp;omega) W hW)
 have HP:=(fun W=>zcd ⟨x0.toArray⟩ W)
 have KP:=(fun W hW=>zit ⟨x2.toArray⟩ (by show x2.toArray.size≤_;simp;omega) W hW)
 unfold ak3 akF at HE0
 simp only [show(⟨x0.toArray⟩:ByteArray).data.toList=x0 from rfl,show(⟨x1.toArray⟩:ByteArray).data.toList=x1 from rfl,show(⟨x2.toArray⟩:ByteArray).data.toList=x2 from rfl,pnumRes]at N1 HP KP
 clear hsp
 generalize (⟨x0.toArray⟩:ByteArray)=t0 at *
 generalize (⟨x1.toArray⟩:ByteArray)=t1 at *
 generalize (⟨x2.toArray⟩:ByteArray)=t2 at *
 generalize (pnum x1).1=n1 at *
 generalize (pnum x1).2=a1 at *
 generalize parseO x0=o0 at *
 have HO3:Hid (sgE (sigP x2)=if (sigP x2).isSome=true then 0 else 2):=hQ9 rfl
 generalize sgE (sigP x2)=e3 at *
 generalize (sigP x2).isSome=b3 at *
 generalize sgO (sigP x2)=X at *
 obtain⟨⟨sw,lf⟩,s,l⟩:=X
 dsimp only at KP HE0
 replace N1:=hQ9 N1
 replace HP:=hQ9 HP
 replace KP:=hQ9 KP
 replace HE0:=hQ9 HE0
 have HEZ:∀ b:Bool,b=false→akE tj.data.toList=(if b=true then 0 else 2)∧akO tj.data.toList=(if b=true then (⟨o0.getD 0,n1,((sw,lf),s,l)⟩:AkR) else .zero)→Hid (akE tj.data.toList=2∧akO tj.data.toList=.zero):=fun b hb h=>hQ9 (by rw [hb]at h;exact h)
 generalize akE tj.data.toList=eS at *
 generalize akO tj.data.toList=oS at *
 clear hS l0 l1 l2 hz
 have hut:=Tryz.underlying79
 have hus:=Tryz.underlying77
 have bz:∀ W,(Instr.build 79 #[]).run Tryz.prog W=.ok (.agg (#[.int .u64 0,.int .i64 0,.int .i64 0,.int .i64 0,.int .u64 0,.int .u64 0,.int .u64 0,.int .u64 0,.int .u64 0,.int .u64 0,.int .u64 0,.int .u64 0,.int .u64 0,.int .u64 0,.int .u64 0,.int .u64 0,.int .u64 0,.int .u64 0,.int .u64 0,.int .u64 0,.int .u64 0,.int .u64 0,.slice none 0 0])) W:=fun W=>run_build W 79 #[] _ zbw
 have HSI:Hid (zI9 79=some (zA23:Array Value).size):=hQ9 zJ
 have HSIL:Hid (zI9 79=some (zA23:Array Value).toList.length):=hQ9 zJ
 have HON:Hid ((#[.int .u64 0,.int .i64 0,.int .i64 0,.int .i64 0,.int .u64 0,.int .u64 0,.int .u64 0,.int .u64 0,.int .u64 0,.int .u64 0,.int .u64 0,.int .u64 0,.int .u64 0,.int .u64 0,.int .u64 0,.int .u64 0,.int .u64 0,.int .u64 0,.int .u64 0,.int .u64 0,.int .u64 0,.int .u64 0,.slice none 0 0]:Array Value).all (·.oneCell')=true):=hQ9 (by simp [Value.oneCell'])
 have z0:=Ag.new w 79 (zA23)
 have g0:=ze (za w) (.cells (zA23) 79)
 go_enter Tryz.func31,Tryz.ntmps31
 go_wp2_with fail
 refine(CS.out _).mono ?_
 rintro e w1 ⟨⟨v1,rfl,o1⟩,gg⟩
 have z1:=z0.grew gg
 have g1:=zb g0 gg
 obtain⟨g,k1,rfl,hk1,hgl,hcs⟩:=xy o1 (by simp)
 have x0:w1.cell? ⟨g,0,none⟩=some (.string t0):=by simpa using hcs 0 (.string t0) rfl
 have x1:w1.cell? ⟨g,1,none⟩=some (.string t1):=by simpa using hcs 1 (.string t1) rfl
 have x2:w1.cell? ⟨g,2,none⟩=some (.string t2):=by simpa using hcs 2 (.string t2) rfl
 clear CS z0 g0 gg o1 hcs
 have hk1':(3:Int)≤(k1:Int):=by
  have:3≤k1:=hk1
  omega
 go_wp2_with fail
 refine(N1.out _ (HS.out.grew g1)).mono ?_
 rintro e w3 ⟨rfl,gg⟩
 have x0:=(gg.cell (p:=⟨g,0,none⟩) hgl).trans x0
 have x2:=(gg.cell (p:=⟨g,2,none⟩) hgl).trans x2
 have hgl3:=Nat.lt_of_lt_of_le hgl gg.size
 have z3:=z1.grew gg
 have g3:=zb g1 gg
 clear N1 x1 z1 g1 gg hgl
 by_cases h1:a1=0
 case neg =>
  have HE:=HEZ _ (by simp [h1]) HE0.out
  have e1:(a1 != 0)=true:=by simpa using h1
  clear h1 HE0
  have HTH:Hid (w3.there w.heap.size 0 (zA23:Array Value).size):=hQ9 (z3.thereN 23 rfl)
  have zZ:=Ag.set (vs:=(zA23:Array Value).toList) z3 rfl
  have gZ:=zh (o:=0) (b:=w.heap.size) (zA23:Array Value).toList g3 (zN9 _)
  go_wp2_with(first
   | (with_reducible refine wpList_store_mid rfl 79 (.tmp 2) (.tmp 39) rfl w.heap.size 0 (zA23) rfl rfl HTH.out HSI.out HON.out ?_))
  exact bodyPost_ret (zw Tryz.results31 _ _ w.heap.size _ _ _ rfl rfl zZ hut rfl HSIL.out) rfl ⟨⟨none,0,by rw [HE.out.1,HE.out.2];rfl,by rw [HE.out.2];exact fun k hk=>absurd hk (by simp [AkR.zero,u64L]),fun ad h=>by cases h⟩,gZ⟩
 subst h1
 by_cases h3:-2147483648≤n1∧n1≤2147483647
 case neg =>
  have HE:=HEZ _ (by simp [smallB,h3]) HE0.out
  clear HE0
  have HTH:Hid (w3.there w.heap.size 0 (zA23:Array Value).size):=hQ9 (z3.thereN 23 rfl)
  have zZ:=Ag.set (vs:=(zA23:Array Value).toList) z3 rfl
  have gZ:=zh (o:=0) (b:=w.heap.size) (zA23:Array Value).toList g3 (zN9 _)
  rcases(show n1 < -2147483648∨(¬n1 < -2147483648∧2147483647<n1) by omega)with h | ⟨h,h'⟩
  ·have e1:decide (n1 < -2147483648)=true:=decide_eq_true h
   clear h3 h
   go_wp2_with(first
    | (with_reducible refine wpList_store_mid rfl 79 (.tmp 2) (.tmp 39) rfl w.heap.size 0 (zA23) rfl rfl HTH.out HSI.out HON.out ?_))
   exact bodyPost_ret (zw Tryz.results31 _ _ w.heap.size _ _ _ rfl rfl zZ hut rfl HSIL.out) rfl ⟨⟨none,0,by rw [HE.out.1,HE.out.2];rfl,by rw [HE.out.2];exact fun k hk=>absurd hk (by simp [AkR.zero,u64L]),fun ad h=>by cases h⟩,gZ⟩
  ·have e1:decide (n1 < -2147483648)=false:=zF9 h
   have e2:decide (2147483647<n1)=true:=decide_eq_true h'
   clear h3 h h'
   go_wp2_with(first
    | (with_reducible refine wpList_store_mid rfl 79 (.tmp 2) (.tmp 39) rfl w.heap.size 0 (zA23) rfl rfl HTH.out HSI.out HON.out ?_))
   exact bodyPost_ret (zw Tryz.results31 _ _ w.heap.size _ _ _ rfl rfl zZ hut rfl HSIL.out) rfl ⟨⟨none,0,by rw [HE.out.1,HE.out.2];rfl,by rw [HE.out.2];exact fun k hk=>absurd hk (by simp [AkR.zero,u64L]),fun ad h=>by cases h⟩,gZ⟩
 have hw1:¬n1 < -2147483648:=by omega
 have hw2:¬2147483647<n1:=by omega
 have HB3:Hid (smallB n1=true):=hQ9 (decide_eq_true h3)
 clear h3
 go_wp2_with(fail)
 refine(HP.out _).mono ?_
 rintro e v3 ⟨rfl,rfl⟩
 cases o0 with
 | none =>
  have HE:=HEZ _ (by simp) HE0.out
  clear HE0
  have HTH:Hid (w3.there w.heap.size 0 (zA23:Array Value).size):=hQ9 (z3.thereN 23 rfl)
  have zZ:=Ag.set (vs:=(zA23:Array Value).toList) z3 rfl
  have gZ:=zh (o:=0) (b:=w.heap.size) (zA23:Array Value).toList g3 (zN9 _)
  rw [zc7]
  go_wp2_with(first
   | (with_reducible refine wpList_store_mid rfl 79 (.tmp 2) (.tmp 49) rfl w.heap.size 0 (zA23) rfl rfl HTH.out HSI.out HON.out ?_))
  exact bodyPost_ret (zw Tryz.results31 _ _ w.heap.size _ _ _ rfl rfl zZ hut rfl HSIL.out) rfl ⟨⟨none,0,by rw [HE.out.1,HE.out.2];rfl,by rw [HE.out.2];exact fun k hk=>absurd hk (by simp [AkR.zero,u64L]),fun ad h=>by cases h⟩,gZ⟩
 | some cm =>
  rw [zc6]
  go_wp2_with fail
  refine(KP.out _ (HS.out.grew g3)).mono ?_
  rintro e w4 ⟨⟨A,c,rfl,r4,hA4⟩,gg⟩
  have z4:=z3.grew gg
  have g4:=zb g3 gg
  have HSI1:Hid (zI9 77=some (sgC sw lf s (.slice A l.length c)).size):=hQ9 zG
  have HSL1:Hid (zI9 77=some (sgC sw lf s (.slice A l.length c)).toList.length):=hQ9 zG
  have HON1:=hQ9 (yS sw lf s A l.length c)
  have HBU:=hQ9 (zaj cm n1 sw lf s A l.length c)
  have zt:=Ag.new w4 77 (zS21)
  have HTH1:Hid ((w4.alloc (.cells (zS21) 77)).there w4.heap.size 0 (sgC sw lf s (.slice A l.length c)).size):=hQ9 (zt.thereN 21 rfl)
  have z5:=Ag.set (vs:=(sgC sw lf s (.slice A l.length c)).toList) zt rfl
  have g5:Grew w4 ((w4.alloc (.cells (zS21) 77)).setCells w4.heap.size 0 (sgC sw lf s (.slice A l.length c)).toList):=zh (o:=0) (b:=w4.heap.size) (sgC sw lf s (.slice A l.length c)).toList (ze (za w4) _) (zN9 _)
  have z6:=z4.grew g5
  have r6:=r4.gr g5
  have g6:=zb g4 g5
  obtain⟨g1,hg1⟩:∃ g,sgC sw lf s (.slice A l.length c)=g:=⟨_,rfl⟩
  rw [hg1]at HSI1 HSL1 HON1 HTH1 HBU z5 z6 r6 g6 ⊢
  obtain⟨w6,hw6⟩:∃ v,(w4.alloc (.cells (zS21) 77)).setCells w4.heap.size 0 g1.toList=v:=⟨_,rfl⟩
  rw [hw6]at z5 z6 r6 g6
  have HW6:=hQ9 hw6
  have hm5:=z5.cell
  have hz3:=z3.lt
  have HFR:Hid (∀ ad,A=some ad→w.heap.size<ad.block):=hQ9 (fun ad e=>by have:=hA4 ad e;omega)
  clear hz3 hA4 hw6 hg1 zt g5 x0 x2 z3 g3 z4 g4 gg r4 hgl3 KP HP
  cases b3 with
  | false =>
   have HE:=HEZ _ (by simp) HE0.out
   have he3:e3=2:=HO3.out
   subst he3
   clear HE0 HO3
   have HTH:Hid (w6.there w.heap.size 0 (zA23:Array Value).size):=hQ9 (z6.thereN 23 rfl)
   have zZ:=Ag.set (vs:=(zA23:Array Value).toList) z6 rfl
   have gZ:=zh (o:=0) (b:=w.heap.size) (zA23:Array Value).toList g6 (zN9 _)
   go_wp2_with(first
    | (with_reducible refine wpList_store_mid rfl 77 (.tmp 8) (.tmp 56) rfl w4.heap.size 0 g1 rfl rfl HTH1.out HSI1.out HON1.out ?_;rw [HW6.out];clear HW6 HTH1)
    | (with_reducible refine wpList_store_mid rfl 79 (.tmp 2) (.tmp 60) rfl w.heap.size 0 (zA23) rfl rfl HTH.out HSI.out HON.out ?_))
   exact bodyPost_ret (zw Tryz.results31 _ _ w.heap.size _ _ _ rfl rfl zZ hut rfl HSIL.out) rfl ⟨⟨none,0,by rw [HE.out.1,HE.out.2];rfl,by rw [HE.out.2];exact fun k hk=>absurd hk (by simp [AkR.zero,u64L]),fun ad h=>by cases h⟩,gZ⟩
  | true =>
   have he3:e3=0:=HO3.out
   subst he3
   have HE:Hid (eS=0∧oS=⟨cm,n1,((sw,lf),s,l)⟩):=hQ9 (by have:=HE0.out;simpa [HB3.out]using this)
   clear HE0 HO3
   have HTZ:Hid (w6.there w.heap.size 0 (akC cm n1 sw lf s (.slice A l.length c)).size):=hQ9 (z6.thereN 23 rfl)
   have HOZ:=hQ9 (kt cm n1 sw lf s A l.length c)
   have HSZ:Hid (zI9 79=some (akC cm n1 sw lf s (.slice A l.length c)).size):=hQ9 zJ
   have HSZL:Hid (zI9 79=some (akC cm n1 sw lf s (.slice A l.length c)).toList.length):=hQ9 zJ
   have z7:=Ag.set (vs:=(akC cm n1 sw lf s (.slice A l.length c)).toList) z6 rfl
   have K7:=zn (akC cm n1 sw lf s (.slice A l.length c)).toList w.heap.size 0 w6
   have G7:=zh (o:=0) (b:=w.heap.size) (akC cm n1 sw lf s (.slice A l.length c)).toList g6 (zN9 _)
   have R7:Rd (w6.setCells w.heap.size 0 (akC cm n1 sw lf s (.slice A l.length c)).toList) (w6.setCells w.heap.size 0 (akC cm n1 sw lf s (.slice A l.length c)).toList).heap.size A (u64L l) :=
    (r6.kp K7 (zN9 _) (fun ad e1 _ (e3:ad.block=w.heap.size)=>by have:=HFR.out ad e1;omega)).more K7.size
   obtain⟨g2,hg2⟩:∃ g,akC cm n1 sw lf s (.slice A l.length c)=g:=⟨_,rfl⟩
   have HG2':=hQ9 hg2
   rw [hg2]at HTZ HOZ HSZ HSZL HBU z7 G7 R7
   clear z6 K7 r6 g6 hg2
   go_wp2_with(first
    | (with_reducible refine wpList_store_mid rfl 77 (.tmp 8) (.tmp 56) rfl w4.heap.size 0 g1 rfl rfl HTH1.out HSI1.out HON1.out ?_;rw [HW6.out];clear HW6 HTH1)
    | (with_reducible refine wpList_load_mid rfl 77 (.tmp 8) rfl w4.heap.size 0 rfl g1.toList _ hm5 hus rfl HSL1.out ?_;simp only [zT9])
    | (with_reducible refine zC rfl 79 #[(0,.tmp 62),(1,.tmp 63),(2,.tmp 64)] rfl g2 ?_ ?_;· simpa [Act.eval,Act.put]using HBU.out)
    | (with_reducible refine wpList_store_mid rfl 79 (.tmp 2) (.tmp 65) rfl w.heap.size 0 g2 rfl rfl HTZ.out HSZ.out HOZ.out ?_))
   exact bodyPost_ret (zw Tryz.results31 _ _ w.heap.size _ _ _ rfl rfl z7 hut rfl HSZL.out) rfl ⟨⟨A,c,by rw [HE.out.1,HE.out.2];show Ending.returned (.tuple #[.agg g2.toList.toArray,.int .i64 0])=_;rw [zT9,←HG2'.out];rfl,by rw [HE.out.2];exact R7,HFR.out⟩,G7⟩
theorem zf8 (tj:ByteArray) (hz:tj.size≤1000000) (w:World) (hS:Std w) :
 Calls Tryz.prog 31 #[.string tj] w fun e w'=>(∃ A c,e=.returned (.tuple #[.agg ((akO tj.data.toList).v (.slice A (akO tj.data.toList).g.2.2.length c)),.int .i64 (akE tj.data.toList)])∧Rd w' w'.heap.size A (u64L (akO tj.data.toList).g.2.2)∧(∀ ad,A=some ad→w.heap.size<ad.block))∧Grew w w':=by
 have hlen:tj.data.toList.length≤1000000:=by rw [xY];exact hz
 by_cases h4:∃ x0 x1 x2,splitF tj.data.toList=some [x0,x1,x2]
 ·obtain⟨x0,x1,x2,hsp⟩:=h4
  have g:=fun x hx=>Nat.le_trans (zak hsp x hx) hlen
  exact zdb tj x0 x1 x2 hsp hz (g x0 (by simp)) (g x1 (by simp)) (g x2 (by simp)) w hS
 ·exact zda tj hz (fun a b c h=>h4 ⟨a,b,c,h⟩) w
theorem zkx (cm:Nat) (who sw lf:Int) (s:Nat→Nat) (A:Option Addr) (n c:Nat):Tryz.prog.built 70 [(0,.int .u64 (cm:Nat)),(1,.int .i64 who),(2,.agg (sgC sw lf s (.slice A n c)))]=some (akC cm who sw lf s (.slice A n c)):=by kernel_rfl
theorem xn:(Tryz.prog.info? 70).map (·.size)=some 23:=by kernel_rfl
structure AP where
 cm:Nat
 who:Int
 sw:Int
 lf:Int
 s:Nat→Nat
 A:Option Addr
 c:Nat
 l:List Nat
def AP.C (S:AP):Array Value:=akC S.cm S.who S.sw S.lf S.s (.slice S.A S.l.length S.c)
structure AP.ok (S:AP):Prop where
 cm:S.cm<18446744073709551616
 who:in64 S.who
 sw:in64 S.sw
 lf:in64 S.lf
 s:∀ k,k<18→S.s k<18446744073709551616
 len:S.l.length≤1000
 l:∀ x∈S.l,x<18446744073709551616
def AP.at (S:AP) (w:World):Prop:=Rd w w.heap.size S.A (u64L S.l)
theorem AP.at.gr {S:AP} {w w':World} (h:S.at w) (g:Grew w w'):S.at w':=Rd.gr h g
def apL (L:List AP):List (List Value):=L.map fun S=>S.C.toList
theorem apL_z (L:List AP):∀ l∈apL L,l.length=23:=fun l hl=>by
 obtain⟨S,_,rfl⟩:=List.mem_map.1 hl
 rfl
theorem zbx (L:List AP):(apL L).length=L.length:=by simp [apL]
theorem ziw (L M:List AP):apL (L++M)=apL L++apL M:=by simp [apL]
theorem znn (L:List AP) (n:Nat):apL (L.take n)=(apL L).take n:=by simp [apL]
theorem AP.one (S:AP):S.C.all (·.oneCell')=true:=kt _ _ _ _ _ _ _ _
theorem AP.one' (S:AP):∀ u∈S.C.toList,u.oneCell'=true:=fun u hu=>by
 have:=S.one
 rw [Array.all_eq_true]at this
 obtain⟨i,hi,rfl⟩:=List.getElem_of_mem hu
 simpa using this i (by simpa using hi)
structure Aps (w:World) (A:Option Addr) (L:List AP):Prop where
 rd:RdC w A 23 (apL L)
 ok:∀ S∈L,S.ok
 at_:∀ S∈L,S.at w
theorem Aps.gr {w w':World} {A:Option Addr} {L:List AP} (h:Aps w A L) (g:Grew w w'):Aps w' A L:=⟨h.rd.gr g,h.ok,fun S hS=>(h.at_ S hS).gr g⟩
theorem Aps.take {w:World} {A:Option Addr} {L:List AP} (h:Aps w A L) (n:Nat):Aps w A (L.take n) :=
 ⟨by rw [znn];exact h.rd.take n,fun S hS=>h.ok S (List.mem_of_mem_take hS),fun S hS=>h.at_ S (List.mem_of_mem_take hS)⟩
theorem Aps.get {w:World} {A:Option Addr} {L:List AP} (h:Aps w A L) (k:Nat) (hk:k<L.length):∃ q,A=some ⟨q,0,none⟩∧q<w.heap.size∧w.rangeAt q (k*23) L[k].C.toList:=by
 obtain⟨q,e,hq,hr⟩:=h.rd k (by rw [zbx];exact hk)
 exact⟨q,e,hq,by simpa [apL]using hr⟩
theorem zky (who leaf:Int) (s:Nat→Nat) (A:Option Addr) (c:Nat) (l:List Nat) (hl:l.length≤1048576) (w:World) (hr:Rd w w.heap.size A (u64L l)) :
 Calls Tryz.prog 79 #[.agg (sgC who leaf s (.slice A l.length c))] w fun e w'=>∃ A' c',e=.returned (.agg (sgC who leaf s (.slice A' l.length c')))∧Rd w' w'.heap.size A' (u64L l)∧Grew w w'∧(∀ ad,A'=some ad→w.heap.size≤ad.block):=by
 have z0:=Ag.new w 68 (sgC who leaf s (.slice A l.length c))
 have G0:=ze (za w) (.cells (sgC who leaf s (.slice A l.length c)) 68)
 have hwz:w.heap.size<(w.alloc (.cells (sgC who leaf s (.slice A l.length c)) 68)).heap.size:=z0.lt
 have HIA:Hid (zI9 66=some (arrU s).toList.length):=hQ9 (by rw [show(arrU s).toList.length=18 by simp [arrU]];kernel_rfl)
 have hua:=Tryz.underlying66
 have hur:=Tryz.underlying77
 go_enter Tryz.func79,Tryz.ntmps79
 go_wp2_with fail
 have z2:Ag ((w.alloc (.cells (sgC who leaf s (.slice A l.length c)) 68)).alloc (.cells (zS21) 77)) (w.heap.size+1) (zS21:Array Value).toList:=by
  have:=Ag.new (w.alloc (.cells (sgC who leaf s (.slice A l.length c)) 68)) 77 (zS21)
  simpa using this
 have z1:=z0.grew (ze (za _) (.cells (zS21) 77))
 have G2:=ze G0 (.cells (zS21) 77)
 clear z0 G0 hwz
 generalize (w.alloc (.cells (sgC who leaf s (.slice A l.length c)) 68)).alloc (.cells (zS21) 77)=w2 at *
 have HC0:Hid (∀ y,Grew w2 y→y.cell? ⟨w.heap.size,0,none⟩=some (.int .i64 who)):=hQ9 (fun y g=>by simpa using (z1.grew g).cell 0 _ rfl)
 have HC1:Hid (∀ y,Grew w2 y→y.cell? ⟨w.heap.size,1,none⟩=some (.int .i64 leaf)):=hQ9 (fun y g=>by simpa using (z1.grew g).cell 1 _ rfl)
 have HC20:Hid (∀ y,Grew w2 y→y.cell? ⟨w.heap.size,20,none⟩=some (.slice A l.length c)):=hQ9 (fun y g=>by simpa using (z1.grew g).cell 20 _ rfl)
 have HCM:Hid (∀ y,Grew w2 y→y.rangeAt w.heap.size 2 (arrU s).toList):=hQ9 (fun y g=>xZ (z1.grew g))
 have r2:=hr.gr G2
 have HRY:=hQ9 (fun y (g:Grew w2 y)=>r2.gr g)
 clear z1 hr r2
 refine zv 11 (fun i=>match i with
  | 0=>fun v _=>v=.pointer (some ⟨w.heap.size,0,none⟩)
  | 1=>fun v _=>v=.int .i64 who
  | 2=>fun v _=>v=.pointer (some ⟨w.heap.size,1,none⟩)
  | 3=>fun v _=>v=.int .i64 leaf
  | 4=>fun v _=>v=.pointer (some ⟨w.heap.size,2,none⟩)
  | 5=>fun v _=>v=.agg (arrU s)
  | 6=>fun v _=>v=.agg (arrU s)
  | 7=>fun v _=>v=.pointer (some ⟨w.heap.size,20,none⟩)
  | 8=>fun v _=>v=.slice A l.length c
  | 9=>fun v w=>PV w w2.heap.size l v
  | 10=>fun v w=>AgS w w2.heap.size who leaf s l v
  | _=>fun _ _=>True) (by kernel_rfl) (by kernel_rfl) ?_ ?_ ?_
 ·intro i v x y h hg
  match i,h with
  | 0,h | 1,h | 2,h | 3,h | 4,h | 5,h | 6,h | 7,h | 8,h=>exact h
  | 9,h=>exact PV.gr h hg
  | 10,h=>exact AgS.gr h hg
  | m+11,_=>trivial
 ·simp only [actOf,tk1,tk0,dr1,dr0,Act.put,si1,st1,st0,Nat.reduceAdd]
  refine⟨?_,?_,?_,?_,?_,?_,?_,?_,?_,?_,?_,trivial⟩
  ·intro vs y hg hd
   dsimp only
   go_wp2_with fail
   exact⟨rfl,_,rfl,za _,rfl⟩
  ·intro vs y hg hd
   obtain⟨h0,_⟩:=hd
   replace h0:=h0 rfl
   dsimp only
   rw [show vs 0=_ from h0]
   have hc:=HC0.out y hg
   go_wp2_with fail
   exact⟨rfl,_,rfl,za _,rfl⟩
  ·intro vs y hg hd
   dsimp only
   go_wp2_with fail
   exact⟨rfl,_,rfl,za _,rfl⟩
  ·intro vs y hg hd
   obtain⟨h2,_⟩:=hd
   replace h2:=h2 rfl
   dsimp only
   rw [show vs 2=_ from h2]
   have hc:=HC1.out y hg
   go_wp2_with fail
   exact⟨rfl,_,rfl,za _,rfl⟩
  ·intro vs y hg hd
   dsimp only
   go_wp2_with fail
   exact⟨rfl,_,rfl,za _,rfl⟩
  ·intro vs y hg hd
   obtain⟨h4,_⟩:=hd
   replace h4:=h4 rfl
   dsimp only
   rw [show vs 4=_ from h4]
   have hm:=HCM.out y hg
   go_wp2_with(with_reducible refine wpList_load_mid rfl 66 (.tmp 7) rfl w.heap.size 2 rfl (arrU s).toList _ hm hua rfl HIA.out ?_)
   exact⟨rfl,_,rfl,za _,rfl⟩
  ·intro vs y hg hd
   obtain⟨h5,_⟩:=hd
   replace h5:=h5 rfl
   dsimp only
   rw [show vs 5=_ from h5]
   go_wp2_with(go_at_call 144;refine(to_row s y).mono ?_;rintro e z ⟨rfl,gz⟩)
   exact⟨rfl,_,rfl,gz,rfl⟩
  ·intro vs y hg hd
   dsimp only
   go_wp2_with fail
   exact⟨rfl,_,rfl,za _,rfl⟩
  ·intro vs y hg hd
   obtain⟨h7,_⟩:=hd
   replace h7:=h7 rfl
   dsimp only
   rw [show vs 7=_ from h7]
   have hc:=HC20.out y hg
   go_wp2_with fail
   exact⟨rfl,_,rfl,za _,rfl⟩
  ·intro vs y hg hd
   obtain⟨h8,_⟩:=hd
   replace h8:=h8 rfl
   dsimp only
   rw [show vs 8=_ from h8]
   go_wp2_with(go_at_call 100;refine(zed A c y.heap.size l hl y (HRY.out y hg) (zN9 _)).mono ?_;rintro e z ⟨A2,c2,rfl,hr9,hb9,gz⟩)
   exact⟨rfl,_,rfl,gz,⟨A2,c2,rfl,hr9,fun ad h=>Nat.le_trans hg.size (hb9 ad h)⟩⟩
  ·intro vs y hg hd
   obtain⟨h1,h3,h6,h9,_⟩:=hd
   replace h1:=h1 rfl
   replace h3:=h3 rfl
   replace h6:=h6 rfl
   replace h9:=h9 rfl
   dsimp only
   rw [show vs 1=_ from h1,show vs 3=_ from h3,show vs 6=_ from h6]
   obtain⟨A2,c2,hv,hr9,hb9⟩:=PV.out h9
   rw [hv]
   have hbu:=zne who leaf s A2 l.length c2
   generalize arrU s=aa at *
   refine zC rfl 77 #[(0,.tmp 4),(1,.tmp 6),(2,.tmp 9),(3,.tmp 12)] rfl _ (by simpa [Act.eval]using hbu) ?_
   go_wp2_with fail
   exact⟨rfl,_,rfl,za _,⟨A2,c2,rfl,hr9,hb9⟩⟩
 ·intro vs y hg hJ
  have j0:vs 0=.pointer (some ⟨w.heap.size,0,none⟩):=hJ 0 (by decide)
  have j1:vs 1=.int .i64 who:=hJ 1 (by decide)
  have j2:vs 2=.pointer (some ⟨w.heap.size,1,none⟩):=hJ 2 (by decide)
  have j3:vs 3=.int .i64 leaf:=hJ 3 (by decide)
  have j4:vs 4=.pointer (some ⟨w.heap.size,2,none⟩):=hJ 4 (by decide)
  have j5:vs 5=.agg (arrU s):=hJ 5 (by decide)
  have j6:vs 6=.agg (arrU s):=hJ 6 (by decide)
  have j7:vs 7=.pointer (some ⟨w.heap.size,20,none⟩):=hJ 7 (by decide)
  have j8:vs 8=.slice A l.length c:=hJ 8 (by decide)
  simp only [actOf,tk1,tk0,dr1,dr0,Act.put,si1,st1,st0,Nat.reduceAdd]
  obtain⟨A2,c2,j10,r3,hb3⟩:=AgS.out (show AgS y w2.heap.size who leaf s l (vs 10) from hJ 10 (by decide))
  rw [j10]
  clear hJ j0 j1 j2 j3 j4 j5 j6 j7 j8 j10
  have h2:=z2.lt
  have HLO:Hid (∀ ad,A2=some ad→w.heap.size≤ad.block):=hQ9 (fun ad h=>by have:=hb3 ad h;have:=G2.size;omega)
  have HNE:Hid (∀ ad,A2=some ad→ad.block≠w.heap.size+1):=hQ9 (fun ad h=>by have:=hb3 ad h;omega)
  have z3:=z2.grew hg
  have G3:=zb G2 hg
  clear z2 G2 hg hb3 h2
  have HTH:Hid (y.there (w.heap.size+1) 0 (sgC who leaf s (.slice A2 l.length c2)).size):=hQ9 (z3.thereN 21 rfl)
  have HSI:Hid (zI9 77=some (sgC who leaf s (.slice A2 l.length c2)).size):=hQ9 zgx
  have HON:=hQ9 (yS who leaf s A2 l.length c2)
  have K3:=zn (sgC who leaf s (.slice A2 l.length c2)).toList (w.heap.size+1) 0 y
  have r4:=(r3.kp K3 (zN9 _) (fun ad h1 h2 h3=>HNE.out ad h1 h3)).more K3.size
  have z4:=Ag.set (vs:=(sgC who leaf s (.slice A2 l.length c2)).toList) z3 rfl
  have G4:=zh (o:=0) (b:=w.heap.size+1) (sgC who leaf s (.slice A2 l.length c2)).toList G3 (by omega)
  go_wp2_with(with_reducible refine wpList_store_mid rfl 77 (.tmp 2) (.tmp 13) rfl (w.heap.size+1) 0 (sgC who leaf s (.slice A2 l.length c2)) rfl rfl HTH.out HSI.out HON.out ?_)
  exact bodyPost_ret (zL Tryz.results79 _ _ (w.heap.size+1) _ _ rfl z4 hur rfl zgx) rfl ⟨A2,⟨c2,rfl⟩,r4,G4,HLO.out⟩
theorem zpf (cm:Nat) (who at_ sw lf:Int) (s:Nat→Nat) (A:Option Addr) (c:Nat) (l:List Nat) (hl:l.length≤1048576) (w:World) (hr:Rd w w.heap.size A (u64L l)) :
 Calls Tryz.prog 137 #[.agg (stC cm who at_ sw lf s (.slice A l.length c))] w fun e w'=>∃ A' c',e=.returned (.agg (stC cm who at_ sw lf s (.slice A' l.length c')))∧Rd w' w'.heap.size A' (u64L l)∧Grew w w'∧(∀ ad,A'=some ad→w.heap.size≤ad.block):=by
 have z0:=Ag.new w 233 (stC cm who at_ sw lf s (.slice A l.length c))
 have G0:=ze (za w) (.cells (stC cm who at_ sw lf s (.slice A l.length c)) 233)
 have hus:=Tryz.underlying68
 have hur:=Tryz.underlying157
 have CO:=hQ9 (fun W hR=>zky sw lf s A c l hl W hR)
 have HSL:Hid (zI9 68=some (sgC sw lf s (.slice A l.length c)).toList.length):=hQ9 yI
 go_enter Tryz.func137,Tryz.ntmps137
 go_wp2_with fail
 have z2:Ag ((w.alloc (.cells (stC cm who at_ sw lf s (.slice A l.length c)) 233)).alloc (.cells (zS24) 157)) (w.heap.size+1) (zS24:Array Value).toList:=by
  have:=Ag.new (w.alloc (.cells (stC cm who at_ sw lf s (.slice A l.length c)) 233)) 157 (zS24)
  simpa using this
 have z1:=z0.grew (ze (za _) (.cells (zS24) 157))
 have G2:=ze G0 (.cells (zS24) 157)
 clear z0 G0
 generalize (w.alloc (.cells (stC cm who at_ sw lf s (.slice A l.length c)) 233)).alloc (.cells (zS24) 157)=w2 at *
 have HC0:Hid (∀ y,Grew w2 y→y.cell? ⟨w.heap.size,0,none⟩=some (.int .u64 (cm:Nat))):=hQ9 (fun y g=>by simpa using (z1.grew g).cell 0 _ rfl)
 have HC1:Hid (∀ y,Grew w2 y→y.cell? ⟨w.heap.size,1,none⟩=some (.int .i64 who)):=hQ9 (fun y g=>by simpa using (z1.grew g).cell 1 _ rfl)
 have HC2:Hid (∀ y,Grew w2 y→y.cell? ⟨w.heap.size,2,none⟩=some (.int .i64 at_)):=hQ9 (fun y g=>by simpa using (z1.grew g).cell 2 _ rfl)
 have HCM:Hid (∀ y,Grew w2 y→y.rangeAt w.heap.size 3 (sgC sw lf s (.slice A l.length c)).toList):=hQ9 (fun y g=>xF (z1.grew g).cell)
 have r2:=hr.gr G2
 have HRY:=hQ9 (fun y (g:Grew w2 y)=>r2.gr g)
 clear z1 hr r2
 generalize sgC sw lf s (.slice A l.length c)=gs at *
 refine zv 10 (fun i=>match i with
  | 0=>fun v _=>v=.pointer (some ⟨w.heap.size,0,none⟩)
  | 1=>fun v _=>v=.int .u64 (cm:Nat)
  | 2=>fun v _=>v=.pointer (some ⟨w.heap.size,1,none⟩)
  | 3=>fun v _=>v=.int .i64 who
  | 4=>fun v _=>v=.pointer (some ⟨w.heap.size,2,none⟩)
  | 5=>fun v _=>v=.int .i64 at_
  | 6=>fun v _=>v=.pointer (some ⟨w.heap.size,3,none⟩)
  | 7=>fun v _=>v=.agg gs
  | 8=>fun v w=>AgS w w2.heap.size sw lf s l v
  | 9=>fun v w=>AgT w w2.heap.size cm who at_ sw lf s l v
  | _=>fun _ _=>True) (by kernel_rfl) (by kernel_rfl) ?_ ?_ ?_
 ·intro i v x y h hg
  match i,h with
  | 0,h | 1,h | 2,h | 3,h | 4,h | 5,h | 6,h | 7,h=>exact h
  | 8,h=>exact AgS.gr h hg
  | 9,h=>exact AgT.gr h hg
  | m+10,_=>trivial
 ·simp only [actOf,tk1,tk0,dr1,dr0,Act.put,si1,st1,st0,Nat.reduceAdd]
  refine⟨?_,?_,?_,?_,?_,?_,?_,?_,?_,?_,trivial⟩
  ·intro vs y hg hd
   dsimp only
   go_wp2_with fail
   exact⟨rfl,_,rfl,za _,rfl⟩
  ·intro vs y hg hd
   obtain⟨h0,_⟩:=hd
   replace h0:=h0 rfl
   dsimp only
   rw [show vs 0=_ from h0]
   have hc:=HC0.out y hg
   go_wp2_with fail
   exact⟨rfl,_,rfl,za _,rfl⟩
  ·intro vs y hg hd
   dsimp only
   go_wp2_with fail
   exact⟨rfl,_,rfl,za _,rfl⟩
  ·intro vs y hg hd
   obtain⟨h2,_⟩:=hd
   replace h2:=h2 rfl
   dsimp only
   rw [show vs 2=_ from h2]
   have hc:=HC1.out y hg
   go_wp2_with fail
   exact⟨rfl,_,rfl,za _,rfl⟩
  ·intro vs y hg hd
   dsimp only
   go_wp2_with fail
   exact⟨rfl,_,rfl,za _,rfl⟩
  ·intro vs y hg hd
   obtain⟨h4,_⟩:=hd
   replace h4:=h4 rfl
   dsimp only
   rw [show vs 4=_ from h4]
   have hc:=HC2.out y hg
   go_wp2_with fail
   exact⟨rfl,_,rfl,za _,rfl⟩
  ·intro vs y hg hd
   dsimp only
   go_wp2_with fail
   exact⟨rfl,_,rfl,za _,rfl⟩
  ·intro vs y hg hd
   obtain⟨h6,_⟩:=hd
   replace h6:=h6 rfl
   dsimp only
   rw [show vs 6=_ from h6]
   have hm:=HCM.out y hg
   go_wp2_with(with_reducible refine wpList_load_mid rfl 68 (.tmp 9) rfl w.heap.size 3 rfl gs.toList _ hm hus rfl HSL.out ?_;simp only [zT9])
   exact⟨rfl,_,rfl,za _,rfl⟩
  ·intro vs y hg hd
   obtain⟨h7,_⟩:=hd
   replace h7:=h7 rfl
   dsimp only
   rw [show vs 7=_ from h7]
   go_wp2_with(go_at_call 79;refine(CO.out y (HRY.out y hg)).mono ?_;rintro e z ⟨A2,c2,rfl,hr2,gz,hb2⟩)
   exact⟨rfl,_,rfl,gz,⟨A2,c2,rfl,hr2,fun ad h=>by have:=hb2 ad h;have:=hg.size;omega⟩⟩
  ·intro vs y hg hd
   obtain⟨h1,h3,h5,h8,_⟩:=hd
   replace h1:=h1 rfl
   replace h3:=h3 rfl
   replace h5:=h5 rfl
   replace h8:=h8 rfl
   dsimp only
   rw [show vs 1=_ from h1,show vs 3=_ from h3,show vs 5=_ from h5]
   obtain⟨A2,c2,hv,hr2,hb2⟩:=AgS.out h8
   rw [hv]
   have HBU:=hQ9 (zeq cm who at_ sw lf s A2 l.length c2)
   go_wp2_with(with_reducible refine zC rfl 157 #[(0,.tmp 4),(1,.tmp 6),(2,.tmp 8),(3,.tmp 11)] rfl (stC cm who at_ sw lf s (.slice A2 l.length c2)) ?_ ?_;· simpa [Act.eval,Act.put]using HBU.out)
   exact⟨rfl,_,rfl,za _,⟨A2,c2,rfl,hr2,hb2⟩⟩
 ·intro vs y hg hJ
  have j0:vs 0=.pointer (some ⟨w.heap.size,0,none⟩):=hJ 0 (by decide)
  have j1:vs 1=.int .u64 (cm:Nat):=hJ 1 (by decide)
  have j2:vs 2=.pointer (some ⟨w.heap.size,1,none⟩):=hJ 2 (by decide)
  have j3:vs 3=.int .i64 who:=hJ 3 (by decide)
  have j4:vs 4=.pointer (some ⟨w.heap.size,2,none⟩):=hJ 4 (by decide)
  have j5:vs 5=.int .i64 at_:=hJ 5 (by decide)
  have j6:vs 6=.pointer (some ⟨w.heap.size,3,none⟩):=hJ 6 (by decide)
  have j7:vs 7=.agg gs:=hJ 7 (by decide)
  have s11:=hJ 8 (by decide)
  have s12:=hJ 9 (by decide)
  clear hJ
  simp only [actOf,tk1,tk0,dr1,dr0,Act.put,si1,st1,st0,Nat.reduceAdd]
  obtain⟨A2,c2,j9,r3,hb3⟩:=AgT.out s12
  rw [j9]
  clear s11 s12 j9
  have hz1:=z2.lt
  have hz2:=G2.size
  have HNE:Hid (∀ ad,A2=some ad→ad.block≠w.heap.size+1):=hQ9 (fun ad h=>by have:=hb3 ad h;omega)
  have HLO:Hid (∀ ad,A2=some ad→w.heap.size≤ad.block):=hQ9 (fun ad h=>by have:=hb3 ad h;omega)
  have z3:=z2.grew hg
  have G3:=zb G2 hg
  clear z2 G2 hg hb3 hz1 hz2
  have HTH:Hid (y.there (w.heap.size+1) 0 (stC cm who at_ sw lf s (.slice A2 l.length c2)).size):=hQ9 (z3.thereN 24 rfl)
  have HSI:Hid (zI9 157=some (stC cm who at_ sw lf s (.slice A2 l.length c2)).size):=hQ9 zK
  have HON:=hQ9 (jf cm who at_ sw lf s A2 l.length c2)
  have K3:=zn (stC cm who at_ sw lf s (.slice A2 l.length c2)).toList (w.heap.size+1) 0 y
  have r4:=(r3.kp K3 (zN9 _) (fun ad h1 h2 h3=>HNE.out ad h1 h3)).more K3.size
  have z4:=Ag.set (vs:=(stC cm who at_ sw lf s (.slice A2 l.length c2)).toList) z3 rfl
  have G4:=zh (o:=0) (b:=w.heap.size+1) (stC cm who at_ sw lf s (.slice A2 l.length c2)).toList G3 (by omega)
  go_wp2_with(with_reducible refine wpList_store_mid rfl 157 (.tmp 2) (.tmp 12) rfl (w.heap.size+1) 0 (stC cm who at_ sw lf s (.slice A2 l.length c2)) rfl rfl HTH.out HSI.out HON.out ?_)
  exact bodyPost_ret (zL Tryz.results137 _ _ (w.heap.size+1) _ _ rfl z4 hur rfl zK) rfl ⟨A2,⟨c2,rfl⟩,r4,G4,HLO.out⟩
structure AgK (w:World) (B:Nat) (cm:Nat) (who sw lf:Int) (s:Nat→Nat) (l:List Nat) (v:Value):Prop where
 out:∃ A c,v=.agg (akC cm who sw lf s (.slice A l.length c))∧Rd w w.heap.size A (u64L l)∧(∀ ad,A=some ad→B≤ad.block)
theorem AgK.gr {w w':World} {B cm:Nat} {who sw lf:Int} {s:Nat→Nat} {l:List Nat} {v:Value} (h:AgK w B cm who sw lf s l v) (g:Grew w w'):AgK w' B cm who sw lf s l v:=by
 obtain⟨A,c,h1,h2,h3⟩:=h.out
 exact⟨A,c,h1,h2.gr g,h3⟩
theorem zpg (cm:Nat) (who sw lf:Int) (s:Nat→Nat) (A:Option Addr) (c:Nat) (l:List Nat) (hl:l.length≤1048576) (w:World) (hr:Rd w w.heap.size A (u64L l)) :
 Calls Tryz.prog 43 #[.agg (akC cm who sw lf s (.slice A l.length c))] w fun e w'=>∃ A' c',e=.returned (.agg (akC cm who sw lf s (.slice A' l.length c')))∧Rd w' w'.heap.size A' (u64L l)∧Grew w w'∧(∀ ad,A'=some ad→w.heap.size≤ad.block):=by
 have z0:=Ag.new w 79 (akC cm who sw lf s (.slice A l.length c))
 have G0:=ze (za w) (.cells (akC cm who sw lf s (.slice A l.length c)) 79)
 have hus:=Tryz.underlying77
 have hur:=Tryz.underlying70
 have CO:=hQ9 (fun W hR=>zkv sw lf s A c l hl W hR)
 have HSL:Hid (zI9 77=some (sgC sw lf s (.slice A l.length c)).toList.length):=hQ9 zG
 go_enter Tryz.func43,Tryz.ntmps43
 go_wp2_with fail
 have z2:Ag ((w.alloc (.cells (akC cm who sw lf s (.slice A l.length c)) 79)).alloc (.cells (zA23) 70)) (w.heap.size+1) (zA23:Array Value).toList:=by
  have:=Ag.new (w.alloc (.cells (akC cm who sw lf s (.slice A l.length c)) 79)) 70 (zA23)
  simpa using this
 have z1:=z0.grew (ze (za _) (.cells (zA23) 70))
 have G2:=ze G0 (.cells (zA23) 70)
 clear z0 G0
 generalize (w.alloc (.cells (akC cm who sw lf s (.slice A l.length c)) 79)).alloc (.cells (zA23) 70)=w2 at *
 have HC0:Hid (∀ y,Grew w2 y→y.cell? ⟨w.heap.size,0,none⟩=some (.int .u64 (cm:Nat))):=hQ9 (fun y g=>by simpa using (z1.grew g).cell 0 _ rfl)
 have HC1:Hid (∀ y,Grew w2 y→y.cell? ⟨w.heap.size,1,none⟩=some (.int .i64 who)):=hQ9 (fun y g=>by simpa using (z1.grew g).cell 1 _ rfl)
 have HCM:Hid (∀ y,Grew w2 y→y.rangeAt w.heap.size 2 (sgC sw lf s (.slice A l.length c)).toList):=hQ9 (fun y g=>x7 (z1.grew g).cell)
 have r2:=hr.gr G2
 have HRY:=hQ9 (fun y (g:Grew w2 y)=>r2.gr g)
 clear z1 hr r2
 generalize sgC sw lf s (.slice A l.length c)=gs at *
 refine zv 8 (fun ix9=>match ix9 with
  | 0=>fun v _=>v=.pointer (some ⟨w.heap.size,0,none⟩)
  | 1=>fun v _=>v=.int .u64 (cm:Nat)
  | 2=>fun v _=>v=.pointer (some ⟨w.heap.size,1,none⟩)
  | 3=>fun v _=>v=.int .i64 who
  | 4=>fun v _=>v=.pointer (some ⟨w.heap.size,2,none⟩)
  | 5=>fun v _=>v=.agg gs
  | 6=>fun v w=>AgS w w2.heap.size sw lf s l v
  | 7=>fun v w=>AgK w w2.heap.size cm who sw lf s l v
  | _=>fun _ _=>True) (by kernel_rfl) (by kernel_rfl) ?_ ?_ ?_
 ·intro i v x y h hg
  match i,h with
  | 0,h | 1,h | 2,h | 3,h | 4,h | 5,h=>exact h
  | 6,h=>exact AgS.gr h hg
  | 7,h=>exact AgK.gr h hg
  | m+8,_=>trivial
 ·simp only [actOf,tk1,tk0,dr1,dr0,Act.put,si1,st1,st0,Nat.reduceAdd]
  refine⟨?_,?_,?_,?_,?_,?_,?_,?_,trivial⟩
  ·intro vs y hg hd
   dsimp only
   go_wp2_with fail
   exact⟨rfl,_,rfl,za _,rfl⟩
  ·intro vs y hg hd
   obtain⟨h0,_⟩:=hd
   replace h0:=h0 rfl
   dsimp only
   rw [show vs 0=_ from h0]
   have hc:=HC0.out y hg
   go_wp2_with fail
   exact⟨rfl,_,rfl,za _,rfl⟩
  ·intro vs y hg hd
   dsimp only
   go_wp2_with fail
   exact⟨rfl,_,rfl,za _,rfl⟩
  ·intro vs y hg hd
   obtain⟨h2,_⟩:=hd
   replace h2:=h2 rfl
   dsimp only
   rw [show vs 2=_ from h2]
   have hc:=HC1.out y hg
   go_wp2_with fail
   exact⟨rfl,_,rfl,za _,rfl⟩
  ·intro vs y hg hd
   dsimp only
   go_wp2_with fail
   exact⟨rfl,_,rfl,za _,rfl⟩
  ·intro vs y hg hd
   obtain⟨h4,_⟩:=hd
   replace h4:=h4 rfl
   dsimp only
   rw [show vs 4=_ from h4]
   have hm:=HCM.out y hg
   go_wp2_with(with_reducible refine wpList_load_mid rfl 77 (.tmp 7) rfl w.heap.size 2 rfl gs.toList _ hm hus rfl HSL.out ?_;simp only [zT9])
   exact⟨rfl,_,rfl,za _,rfl⟩
  ·intro vs y hg hd
   obtain⟨h5,_⟩:=hd
   replace h5:=h5 rfl
   dsimp only
   rw [show vs 5=_ from h5]
   go_wp2_with(go_at_call 105;refine(CO.out y (HRY.out y hg)).mono ?_;rintro e z ⟨A2,c2,rfl,hr2,gz,hb2⟩)
   exact⟨rfl,_,rfl,gz,⟨A2,c2,rfl,hr2,fun ad h=>by have:=hb2 ad h;have:=hg.size;omega⟩⟩
  ·intro vs y hg hd
   obtain⟨h1,h3,h6,_⟩:=hd
   replace h1:=h1 rfl
   replace h3:=h3 rfl
   replace h6:=h6 rfl
   dsimp only
   rw [show vs 1=_ from h1,show vs 3=_ from h3]
   obtain⟨A2,c2,hv,hr2,hb2⟩:=AgS.out h6
   rw [hv]
   have HBU:=hQ9 (zkx cm who sw lf s A2 l.length c2)
   go_wp2_with(with_reducible refine zC rfl 70 #[(0,.tmp 4),(1,.tmp 6),(2,.tmp 9)] rfl (akC cm who sw lf s (.slice A2 l.length c2)) ?_ ?_;· simpa [Act.eval,Act.put]using HBU.out)
   exact⟨rfl,_,rfl,za _,⟨A2,c2,rfl,hr2,hb2⟩⟩
 ·intro vs y hg hJ
  have j0:vs 0=.pointer (some ⟨w.heap.size,0,none⟩):=hJ 0 (by decide)
  have j1:vs 1=.int .u64 (cm:Nat):=hJ 1 (by decide)
  have j2:vs 2=.pointer (some ⟨w.heap.size,1,none⟩):=hJ 2 (by decide)
  have j3:vs 3=.int .i64 who:=hJ 3 (by decide)
  have j4:vs 4=.pointer (some ⟨w.heap.size,2,none⟩):=hJ 4 (by decide)
  have j5:vs 5=.agg gs:=hJ 5 (by decide)
  have s9:=hJ 6 (by decide)
  have s10:=hJ 7 (by decide)
  clear hJ
  simp only [actOf,tk1,tk0,dr1,dr0,Act.put,si1,st1,st0,Nat.reduceAdd]
  obtain⟨A2,c2,j7,r3,hb3⟩:=AgK.out s10
  rw [j7]
  clear s9 s10 j7
  have hz1:=z2.lt
  have hz2:=G2.size
  have HNE:Hid (∀ ad,A2=some ad→ad.block≠w.heap.size+1):=hQ9 (fun ad h=>by have:=hb3 ad h;omega)
  have HLO:Hid (∀ ad,A2=some ad→w.heap.size≤ad.block):=hQ9 (fun ad h=>by have:=hb3 ad h;omega)
  have z3:=z2.grew hg
  have G3:=zb G2 hg
  clear z2 G2 hg hb3 hz1 hz2
  have HTH:Hid (y.there (w.heap.size+1) 0 (akC cm who sw lf s (.slice A2 l.length c2)).size):=hQ9 (z3.thereN 23 rfl)
  have HSI:Hid (zI9 70=some (akC cm who sw lf s (.slice A2 l.length c2)).size):=hQ9 xn
  have HON:=hQ9 (kt cm who sw lf s A2 l.length c2)
  have K3:=zn (akC cm who sw lf s (.slice A2 l.length c2)).toList (w.heap.size+1) 0 y
  have r4:=(r3.kp K3 (zN9 _) (fun ad h1 h2 h3=>HNE.out ad h1 h3)).more K3.size
  have z4:=Ag.set (vs:=(akC cm who sw lf s (.slice A2 l.length c2)).toList) z3 rfl
  have G4:=zh (o:=0) (b:=w.heap.size+1) (akC cm who sw lf s (.slice A2 l.length c2)).toList G3 (by omega)
  go_wp2_with(with_reducible refine wpList_store_mid rfl 70 (.tmp 2) (.tmp 10) rfl (w.heap.size+1) 0 (akC cm who sw lf s (.slice A2 l.length c2)) rfl rfl HTH.out HSI.out HON.out ?_)
  exact bodyPost_ret (zL Tryz.results43 _ _ (w.heap.size+1) _ _ rfl z4 hur rfl xn) rfl ⟨A2,⟨c2,rfl⟩,r4,G4,HLO.out⟩
theorem zph (cm:Nat) (who sw lf:Int) (s:Nat→Nat) (A:Option Addr) (c:Nat) (l:List Nat) (hl:l.length≤1048576) (w:World) (hr:Rd w w.heap.size A (u64L l)) :
 Calls Tryz.prog 30 #[.agg (akC cm who sw lf s (.slice A l.length c))] w fun e w'=>∃ A' c',e=.returned (.agg (akC cm who sw lf s (.slice A' l.length c')))∧Rd w' w'.heap.size A' (u64L l)∧Grew w w'∧(∀ ad,A'=some ad→w.heap.size≤ad.block):=by
 have z0:=Ag.new w 70 (akC cm who sw lf s (.slice A l.length c))
 have G0:=ze (za w) (.cells (akC cm who sw lf s (.slice A l.length c)) 70)
 have hus:=Tryz.underlying68
 have hur:=Tryz.underlying79
 have CO:=hQ9 (fun W hR=>zky sw lf s A c l hl W hR)
 have HSL:Hid (zI9 68=some (sgC sw lf s (.slice A l.length c)).toList.length):=hQ9 yI
 go_enter Tryz.func30,Tryz.ntmps30
 go_wp2_with fail
 have z2:Ag ((w.alloc (.cells (akC cm who sw lf s (.slice A l.length c)) 70)).alloc (.cells (zA23) 79)) (w.heap.size+1) (zA23:Array Value).toList:=by
  have:=Ag.new (w.alloc (.cells (akC cm who sw lf s (.slice A l.length c)) 70)) 79 (zA23)
  simpa using this
 have z1:=z0.grew (ze (za _) (.cells (zA23) 79))
 have G2:=ze G0 (.cells (zA23) 79)
 clear z0 G0
 generalize (w.alloc (.cells (akC cm who sw lf s (.slice A l.length c)) 70)).alloc (.cells (zA23) 79)=w2 at *
 have HC0:Hid (∀ y,Grew w2 y→y.cell? ⟨w.heap.size,0,none⟩=some (.int .u64 (cm:Nat))):=hQ9 (fun y g=>by simpa using (z1.grew g).cell 0 _ rfl)
 have HC1:Hid (∀ y,Grew w2 y→y.cell? ⟨w.heap.size,1,none⟩=some (.int .i64 who)):=hQ9 (fun y g=>by simpa using (z1.grew g).cell 1 _ rfl)
 have HCM:Hid (∀ y,Grew w2 y→y.rangeAt w.heap.size 2 (sgC sw lf s (.slice A l.length c)).toList):=hQ9 (fun y g=>x7 (z1.grew g).cell)
 have r2:=hr.gr G2
 have HRY:=hQ9 (fun y (g:Grew w2 y)=>r2.gr g)
 clear z1 hr r2
 generalize sgC sw lf s (.slice A l.length c)=gs at *
 refine zv 8 (fun ix9=>match ix9 with
  | 0=>fun v _=>v=.pointer (some ⟨w.heap.size,0,none⟩)
  | 1=>fun v _=>v=.int .u64 (cm:Nat)
  | 2=>fun v _=>v=.pointer (some ⟨w.heap.size,1,none⟩)
  | 3=>fun v _=>v=.int .i64 who
  | 4=>fun v _=>v=.pointer (some ⟨w.heap.size,2,none⟩)
  | 5=>fun v _=>v=.agg gs
  | 6=>fun v w=>AgS w w2.heap.size sw lf s l v
  | 7=>fun v w=>AgK w w2.heap.size cm who sw lf s l v
  | _=>fun _ _=>True) (by kernel_rfl) (by kernel_rfl) ?_ ?_ ?_
 ·intro i v x y h hg
  match i,h with
  | 0,h | 1,h | 2,h | 3,h | 4,h | 5,h=>exact h
  | 6,h=>exact AgS.gr h hg
  | 7,h=>exact AgK.gr h hg
  | m+8,_=>trivial
 ·simp only [actOf,tk1,tk0,dr1,dr0,Act.put,si1,st1,st0,Nat.reduceAdd]
  refine⟨?_,?_,?_,?_,?_,?_,?_,?_,trivial⟩
  ·intro vs y hg hd
   dsimp only
   go_wp2_with fail
   exact⟨rfl,_,rfl,za _,rfl⟩
  ·intro vs y hg hd
   obtain⟨h0,_⟩:=hd
   replace h0:=h0 rfl
   dsimp only
   rw [show vs 0=_ from h0]
   have hc:=HC0.out y hg
   go_wp2_with fail
   exact⟨rfl,_,rfl,za _,rfl⟩
  ·intro vs y hg hd
   dsimp only
   go_wp2_with fail
   exact⟨rfl,_,rfl,za _,rfl⟩
  ·intro vs y hg hd
   obtain⟨h2,_⟩:=hd
   replace h2:=h2 rfl
   dsimp only
   rw [show vs 2=_ from h2]
   have hc:=HC1.out y hg
   go_wp2_with fail
   exact⟨rfl,_,rfl,za _,rfl⟩
  ·intro vs y hg hd
   dsimp only
   go_wp2_with fail
   exact⟨rfl,_,rfl,za _,rfl⟩
  ·intro vs y hg hd
   obtain⟨h4,_⟩:=hd
   replace h4:=h4 rfl
   dsimp only
   rw [show vs 4=_ from h4]
   have hm:=HCM.out y hg
   go_wp2_with(with_reducible refine wpList_load_mid rfl 68 (.tmp 7) rfl w.heap.size 2 rfl gs.toList _ hm hus rfl HSL.out ?_;simp only [zT9])
   exact⟨rfl,_,rfl,za _,rfl⟩
  ·intro vs y hg hd
   obtain⟨h5,_⟩:=hd
   replace h5:=h5 rfl
   dsimp only
   rw [show vs 5=_ from h5]
   go_wp2_with(go_at_call 79;refine(CO.out y (HRY.out y hg)).mono ?_;rintro e z ⟨A2,c2,rfl,hr2,gz,hb2⟩)
   exact⟨rfl,_,rfl,gz,⟨A2,c2,rfl,hr2,fun ad h=>by have:=hb2 ad h;have:=hg.size;omega⟩⟩
  ·intro vs y hg hd
   obtain⟨h1,h3,h6,_⟩:=hd
   replace h1:=h1 rfl
   replace h3:=h3 rfl
   replace h6:=h6 rfl
   dsimp only
   rw [show vs 1=_ from h1,show vs 3=_ from h3]
   obtain⟨A2,c2,hv,hr2,hb2⟩:=AgS.out h6
   rw [hv]
   have HBU:=hQ9 (zaj cm who sw lf s A2 l.length c2)
   go_wp2_with(with_reducible refine zC rfl 79 #[(0,.tmp 4),(1,.tmp 6),(2,.tmp 9)] rfl (akC cm who sw lf s (.slice A2 l.length c2)) ?_ ?_;· simpa [Act.eval,Act.put]using HBU.out)
   exact⟨rfl,_,rfl,za _,⟨A2,c2,rfl,hr2,hb2⟩⟩
 ·intro vs y hg hJ
  have j0:vs 0=.pointer (some ⟨w.heap.size,0,none⟩):=hJ 0 (by decide)
  have j1:vs 1=.int .u64 (cm:Nat):=hJ 1 (by decide)
  have j2:vs 2=.pointer (some ⟨w.heap.size,1,none⟩):=hJ 2 (by decide)
  have j3:vs 3=.int .i64 who:=hJ 3 (by decide)
  have j4:vs 4=.pointer (some ⟨w.heap.size,2,none⟩):=hJ 4 (by decide)
  have j5:vs 5=.agg gs:=hJ 5 (by decide)
  have s9:=hJ 6 (by decide)
  have s10:=hJ 7 (by decide)
  clear hJ
  simp only [actOf,tk1,tk0,dr1,dr0,Act.put,si1,st1,st0,Nat.reduceAdd]
  obtain⟨A2,c2,j7,r3,hb3⟩:=AgK.out s10
  rw [j7]
  clear s9 s10 j7
  have hz1:=z2.lt
  have hz2:=G2.size
  have HNE:Hid (∀ ad,A2=some ad→ad.block≠w.heap.size+1):=hQ9 (fun ad h=>by have:=hb3 ad h;omega)
  have HLO:Hid (∀ ad,A2=some ad→w.heap.size≤ad.block):=hQ9 (fun ad h=>by have:=hb3 ad h;omega)
  have z3:=z2.grew hg
  have G3:=zb G2 hg
  clear z2 G2 hg hb3 hz1 hz2
  have HTH:Hid (y.there (w.heap.size+1) 0 (akC cm who sw lf s (.slice A2 l.length c2)).size):=hQ9 (z3.thereN 23 rfl)
  have HSI:Hid (zI9 79=some (akC cm who sw lf s (.slice A2 l.length c2)).size):=hQ9 zJ
  have HON:=hQ9 (kt cm who sw lf s A2 l.length c2)
  have K3:=zn (akC cm who sw lf s (.slice A2 l.length c2)).toList (w.heap.size+1) 0 y
  have r4:=(r3.kp K3 (zN9 _) (fun ad h1 h2 h3=>HNE.out ad h1 h3)).more K3.size
  have z4:=Ag.set (vs:=(akC cm who sw lf s (.slice A2 l.length c2)).toList) z3 rfl
  have G4:=zh (o:=0) (b:=w.heap.size+1) (akC cm who sw lf s (.slice A2 l.length c2)).toList G3 (by omega)
  go_wp2_with(with_reducible refine wpList_store_mid rfl 79 (.tmp 2) (.tmp 10) rfl (w.heap.size+1) 0 (akC cm who sw lf s (.slice A2 l.length c2)) rfl rfl HTH.out HSI.out HON.out ?_)
  exact bodyPost_ret (zL Tryz.results30 _ _ (w.heap.size+1) _ _ rfl z4 hur rfl zJ) rfl ⟨A2,⟨c2,rfl⟩,r4,G4,HLO.out⟩
theorem zbc (cm:Nat) (who sw lf:Int) (s:Nat→Nat) (A A':Option Addr) (c c':Nat) (l:List Nat) (hl:l.length≤1048576) (w:World) (hr:Rd w w.heap.size A (u64L l)) (hr':Rd w w.heap.size A' (u64L l)) :
 Calls Tryz.prog 42 #[.agg (akC cm who sw lf s (.slice A l.length c)),.agg (akC cm who sw lf s (.slice A' l.length c'))] w fun e w'=>e=.returned (.bool true)∧Grew w w':=by
 have z1:=(Ag.new w 70 (akC cm who sw lf s (.slice A l.length c))).grew (ze (za _) (.cells (akC cm who sw lf s (.slice A' l.length c')) 70))
 have z2:=Ag.new (w.alloc (.cells (akC cm who sw lf s (.slice A l.length c)) 70)) 70 (akC cm who sw lf s (.slice A' l.length c'))
 rw [zl]at z2
 have G0:=ze (ze (za w) (.cells (akC cm who sw lf s (.slice A l.length c)) 70)) (.cells (akC cm who sw lf s (.slice A' l.length c')) 70)
 have r1:=hr.gr G0
 have r2:=hr'.gr G0
 have hus:=Tryz.underlying68
 have HL1:Hid (zI9 68=some (sgC sw lf s (.slice A l.length c)).toList.length):=hQ9 yI
 have HL2:Hid (zI9 68=some (sgC sw lf s (.slice A' l.length c')).toList.length):=hQ9 yI
 have m1:=hQ9 (x7 z1.cell)
 have m2:=hQ9 (x7 z2.cell)
 have x0:((w.alloc (.cells (akC cm who sw lf s (.slice A l.length c)) 70)).alloc (.cells (akC cm who sw lf s (.slice A' l.length c')) 70)).cell? ⟨w.heap.size,0,none⟩=some (.int .u64 (cm:Nat)):=by simpa using z1.cell 0 _ rfl
 have x1:((w.alloc (.cells (akC cm who sw lf s (.slice A l.length c)) 70)).alloc (.cells (akC cm who sw lf s (.slice A' l.length c')) 70)).cell? ⟨w.heap.size,1,none⟩=some (.int .i64 who):=by simpa using z1.cell 1 _ rfl
 have y0:((w.alloc (.cells (akC cm who sw lf s (.slice A l.length c)) 70)).alloc (.cells (akC cm who sw lf s (.slice A' l.length c')) 70)).cell? ⟨w.heap.size+1,0,none⟩=some (.int .u64 (cm:Nat)):=by simpa using z2.cell 0 _ rfl
 have y1:((w.alloc (.cells (akC cm who sw lf s (.slice A l.length c)) 70)).alloc (.cells (akC cm who sw lf s (.slice A' l.length c')) 70)).cell? ⟨w.heap.size+1,1,none⟩=some (.int .i64 who):=by simpa using z2.cell 1 _ rfl
 have CS:=hQ9 (zeh sw lf s A A' c c' l hl _ r1 r2)
 have e0:((cm:Int)==(cm:Int))=true:=by simp
 have e1:(who==who)=true:=by simp
 have GG:=hQ9 G0
 clear z1 z2 r1 r2 G0 hr hr'
 go_enter Tryz.func42,Tryz.ntmps42
 obtain⟨v,hv⟩:∃ v,(w.alloc (.cells (akC cm who sw lf s (.slice A l.length c)) 70)).alloc (.cells (akC cm who sw lf s (.slice A' l.length c')) 70)=v:=⟨_,rfl⟩
 rw [hv]at CS GG x0 x1 y0 y1 m1 m2
 go_wp2_with(first
  | (refine zj (by rfl) 68 (.tmp 18) rfl w.heap.size 2 rfl (sgC sw lf s (.slice A l.length c)).toList _ m1.out hus rfl HL1.out ?_;simp only [zT9])
  | (refine zj (by rfl) 68 (.tmp 20) rfl (w.heap.size+1) 2 rfl (sgC sw lf s (.slice A' l.length c')).toList _ m2.out hus rfl HL2.out ?_;simp only [zT9]))
 refine(CS.out).mono ?_
 rintro e w1 ⟨rfl,gg⟩
 go_wp2_with fail
 go_ret
 exact⟨rfl,zb GG.out gg⟩
theorem zno (f:Int):Tryz.prog.built 89 [(0,.int .i64 f)]=some #[.int .i64 f]:=by kernel_rfl
theorem znp (f h:Int) (A:Option Addr) (n c:Nat):Tryz.prog.built 91 [(0,.agg #[.int .i64 f]),(1,.slice A n c),(2,.int .i64 h)]=some (kyS f A n c h):=by kernel_rfl
theorem zg9:(Tryz.prog.info? 91).map (·.size)=some 3:=by kernel_rfl
theorem zkz (f:Int) (R:List Nat) (RA:Option Addr) (Rc:Nat) (h:Int) (hl:R.length≤1048576) (w:World) (hr:Rd w w.heap.size RA (u64L R)) :
 Calls Tryz.prog 36 #[.agg (kyS f RA R.length Rc h)] w fun e w'=>∃ A' c',e=.returned (.agg (kyS f A' R.length c' h))∧Rd w' w'.heap.size A' (u64L R)∧Grew w w'∧(∀ ad,A'=some ad→w.heap.size≤ad.block):=by
 have z0:=Ag.new w 64 (kyS f RA R.length Rc h)
 have G0:=ze (za w) (.cells (kyS f RA R.length Rc h) 64)
 have hur:=Tryz.underlying91
 have CO:=hQ9 (fun W hR=>zed RA Rc _ R hl W hR (zN9 _))
 go_enter Tryz.func36,Tryz.ntmps36
 go_wp2_with fail
 have z2:Ag ((w.alloc (.cells (kyS f RA R.length Rc h) 64)).alloc (.cells (#[.int .i64 0,.slice none 0 0,.int .i64 0]) 91)) (w.heap.size+1) (#[.int .i64 0,.slice none 0 0,.int .i64 0]:Array Value).toList:=by
  have:=Ag.new (w.alloc (.cells (kyS f RA R.length Rc h) 64)) 91 (#[.int .i64 0,.slice none 0 0,.int .i64 0])
  simpa using this
 have z1:=z0.grew (ze (za _) (.cells (#[.int .i64 0,.slice none 0 0,.int .i64 0]) 91))
 have G2:=ze G0 (.cells (#[.int .i64 0,.slice none 0 0,.int .i64 0]) 91)
 clear z0 G0
 generalize (w.alloc (.cells (kyS f RA R.length Rc h) 64)).alloc (.cells (#[.int .i64 0,.slice none 0 0,.int .i64 0]) 91)=w2 at *
 have HC0:Hid (∀ y,Grew w2 y→y.cell? ⟨w.heap.size,0,none⟩=some (.int .i64 f)):=hQ9 (fun y g=>by simpa using (z1.grew g).cell 0 _ rfl)
 have HC1:Hid (∀ y,Grew w2 y→y.cell? ⟨w.heap.size,1,none⟩=some (.slice RA R.length Rc)):=hQ9 (fun y g=>by simpa using (z1.grew g).cell 1 _ rfl)
 have HC2:Hid (∀ y,Grew w2 y→y.cell? ⟨w.heap.size,2,none⟩=some (.int .i64 h)):=hQ9 (fun y g=>by simpa using (z1.grew g).cell 2 _ rfl)
 have r2:=hr.gr G2
 have HRY:=hQ9 (fun y (g:Grew w2 y)=>r2.gr g)
 clear z1 hr r2
 refine zv 9 (fun i=>match i with
  | 0=>fun v _=>v=.pointer (some ⟨w.heap.size,0,none⟩)
  | 1=>fun v _=>v=.int .i64 f
  | 2=>fun v _=>v=.agg #[.int .i64 f]
  | 3=>fun v _=>v=.pointer (some ⟨w.heap.size,1,none⟩)
  | 4=>fun v _=>v=.slice RA R.length Rc
  | 5=>fun v w=>PV w w2.heap.size R v
  | 6=>fun v _=>v=.pointer (some ⟨w.heap.size,2,none⟩)
  | 7=>fun v _=>v=.int .i64 h
  | 8=>fun v w=>KV w w2.heap.size f R h v
  | _=>fun _ _=>True) (by kernel_rfl) (by kernel_rfl) ?_ ?_ ?_
 ·intro i v x y h hg
  match i,h with
  | 0,h | 1,h | 2,h | 3,h | 4,h | 6,h | 7,h=>exact h
  | 5,h=>exact PV.gr h hg
  | 8,h=>exact KV.gr h hg
  | m+9,_=>trivial
 ·simp only [actOf,tk1,tk0,dr1,dr0,Act.put,si1,st1,st0,Nat.reduceAdd]
  refine⟨?_,?_,?_,?_,?_,?_,?_,?_,?_,trivial⟩
  ·intro vs y hg hd
   dsimp only
   go_wp2_with fail
   exact⟨rfl,_,rfl,za _,rfl⟩
  ·intro vs y hg hd
   obtain⟨h0,_⟩:=hd
   replace h0:=h0 rfl
   dsimp only
   rw [show vs 0=_ from h0]
   have hc:=HC0.out y hg
   go_wp2_with fail
   exact⟨rfl,_,rfl,za _,rfl⟩
  ·intro vs y hg hd
   obtain⟨h1,_⟩:=hd
   replace h1:=h1 rfl
   dsimp only
   rw [show vs 1=_ from h1]
   have HBF:=hQ9 (zno f)
   go_wp2_with(with_reducible refine zC rfl 89 #[(0,.tmp 4)] rfl #[.int .i64 f] ?_ ?_;· simpa [Act.eval,Act.put]using HBF.out)
   exact⟨rfl,_,rfl,za _,rfl⟩
  ·intro vs y hg hd
   dsimp only
   go_wp2_with fail
   exact⟨rfl,_,rfl,za _,rfl⟩
  ·intro vs y hg hd
   obtain⟨h3,_⟩:=hd
   replace h3:=h3 rfl
   dsimp only
   rw [show vs 3=_ from h3]
   have hc:=HC1.out y hg
   go_wp2_with fail
   exact⟨rfl,_,rfl,za _,rfl⟩
  ·intro vs y hg hd
   obtain⟨h4,_⟩:=hd
   replace h4:=h4 rfl
   dsimp only
   rw [show vs 4=_ from h4]
   go_wp2_with(go_at_call 100;refine(CO.out y (HRY.out y hg)).mono ?_;rintro e z ⟨A2,c2,rfl,hr2,hb2,gz⟩)
   exact⟨rfl,_,rfl,gz,⟨A2,c2,rfl,hr2,fun ad h=>by have:=hb2 ad h;have:=hg.size;omega⟩⟩
  ·intro vs y hg hd
   dsimp only
   go_wp2_with fail
   exact⟨rfl,_,rfl,za _,rfl⟩
  ·intro vs y hg hd
   obtain⟨h6,_⟩:=hd
   replace h6:=h6 rfl
   dsimp only
   rw [show vs 6=_ from h6]
   have hc:=HC2.out y hg
   go_wp2_with fail
   exact⟨rfl,_,rfl,za _,rfl⟩
  ·intro vs y hg hd
   obtain⟨h2,h5,h7,_⟩:=hd
   replace h2:=h2 rfl
   replace h5:=h5 rfl
   replace h7:=h7 rfl
   dsimp only
   rw [show vs 2=_ from h2,show vs 7=_ from h7]
   obtain⟨A2,c2,hv,hr2,hb2⟩:=PV.out h5
   rw [hv]
   have HBU:=hQ9 (znp f h A2 R.length c2)
   go_wp2_with(with_reducible refine zC rfl 91 #[(0,.tmp 5),(1,.tmp 8),(2,.tmp 10)] rfl (kyS f A2 R.length c2 h) ?_ ?_;· simpa [Act.eval,Act.put]using HBU.out)
   exact⟨rfl,_,rfl,za _,⟨A2,c2,rfl,hr2,hb2⟩⟩
 ·intro vs y hg hJ
  have j0:vs 0=.pointer (some ⟨w.heap.size,0,none⟩):=hJ 0 (by decide)
  have j1:vs 1=.int .i64 f:=hJ 1 (by decide)
  have j2:vs 2=.agg #[.int .i64 f]:=hJ 2 (by decide)
  have j3:vs 3=.pointer (some ⟨w.heap.size,1,none⟩):=hJ 3 (by decide)
  have j4:vs 4=.slice RA R.length Rc:=hJ 4 (by decide)
  have j6:vs 6=.pointer (some ⟨w.heap.size,2,none⟩):=hJ 6 (by decide)
  have j7:vs 7=.int .i64 h:=hJ 7 (by decide)
  have s8:=hJ 5 (by decide)
  have s11:=hJ 8 (by decide)
  clear hJ
  simp only [actOf,tk1,tk0,dr1,dr0,Act.put,si1,st1,st0,Nat.reduceAdd]
  obtain⟨A2,c2,j9,r3,hb3⟩:=KV.out s11
  rw [j9]
  clear s8 s11 j9
  have hz1:=z2.lt
  have hz2:=G2.size
  have HNE:Hid (∀ ad,A2=some ad→ad.block≠w.heap.size+1):=hQ9 (fun ad h=>by have:=hb3 ad h;omega)
  have HLO:Hid (∀ ad,A2=some ad→w.heap.size≤ad.block):=hQ9 (fun ad h=>by have:=hb3 ad h;omega)
  have z3:=z2.grew hg
  have G3:=zb G2 hg
  clear z2 G2 hg hb3 hz1 hz2
  have HTH:Hid (y.there (w.heap.size+1) 0 (kyS f A2 R.length c2 h).size):=hQ9 (z3.thereN 3 rfl)
  have HSI:Hid (zI9 91=some (kyS f A2 R.length c2 h).size):=hQ9 zg9
  have HON:=hQ9 (zpd f h A2 R.length c2)
  have K3:=zn (kyS f A2 R.length c2 h).toList (w.heap.size+1) 0 y
  have r4:=(r3.kp K3 (zN9 _) (fun ad h1 h2 h3=>HNE.out ad h1 h3)).more K3.size
  have z4:=Ag.set (vs:=(kyS f A2 R.length c2 h).toList) z3 rfl
  have G4:=zh (o:=0) (b:=w.heap.size+1) (kyS f A2 R.length c2 h).toList G3 (by omega)
  go_wp2_with(with_reducible refine wpList_store_mid rfl 91 (.tmp 2) (.tmp 11) rfl (w.heap.size+1) 0 (kyS f A2 R.length c2 h) rfl rfl HTH.out HSI.out HON.out ?_)
  exact bodyPost_ret (zL Tryz.results36 _ _ (w.heap.size+1) _ _ rfl z4 hur rfl zg9) rfl ⟨A2,⟨c2,rfl⟩,r4,G4,HLO.out⟩
theorem zf9 (f:Int) (R:List Nat) (RA:Option Addr) (Rc:Nat) (h:Int) (w:World) :
 Calls Tryz.prog 29 #[.agg (kyS f RA R.length Rc h)] w fun e w'=>e=.returned (.int .i64 (cyE f R.length h))∧Grew w w':=by
 have CC:=hQ9 (fun W=>zj8 f W)
 have zk:=Ag.new w 64 (kyS f RA R.length Rc h)
 have G1:=ze (za w) (.cells (kyS f RA R.length Rc h) 64)
 have hm0:(w.alloc (.cells (kyS f RA R.length Rc h) 64)).cell? ⟨w.heap.size,0,none⟩=some (.int .i64 f):=by simpa using zk.cell 0 _ rfl
 by_cases hbad:f<1∨3<f
 ·have HE:Hid (cyE f R.length h=1):=hQ9 (by unfold cyE;rw [if_pos hbad])
  rw [if_pos hbad]at CC
  clear hbad zk
  go_enter Tryz.func29,Tryz.ntmps29
  go_wp2_with fail
  refine(CC.out _).mono ?_
  rintro e w2 ⟨rfl,rfl⟩
  go_wp2_with fail
  go_ret
  exact⟨by rw [HE.out];rfl,G1⟩
 rw [if_neg hbad]at CC
 have CN:Hid (∀ W,Calls Tryz.prog 78 #[.int .i64 f] W fun e w'=>e=.returned (.int .i64 (3*f+1))∧Grew W w'):=hQ9 (fun W=>(rn_ok f (by omega) W).mono (by rintro e z ⟨rfl,rfl⟩;exact⟨rfl,za _⟩))
 have hf:1≤f∧f≤3:=by omega
 go_enter Tryz.func29,Tryz.ntmps29
 go_wp2_with fail
 refine(CC.out _).mono ?_
 rintro e w1 ⟨rfl,hw1⟩
 rw [←hw1]at zk G1
 clear hm0 CC hw1
 go_wp2_with fail
 have HD:Hid (cyE f R.length h=if (R.length:Int)=3*f+1∧0≤h∧h≤8 then 0 else 1):=hQ9 (by unfold cyE;rw [if_neg hbad])
 have m0:∀ y:Gr w1,y.val.cell? ⟨w.heap.size,0,none⟩=some (.int .i64 f):=fun y=>by simpa using (zk.gr y).cell 0 _ rfl
 have m1:∀ y:Gr w1,y.val.cell? ⟨w.heap.size,1,none⟩=some (.slice RA R.length Rc):=fun y=>by simpa using (zk.gr y).cell 1 _ rfl
 have m2:∀ y:Gr w1,y.val.cell? ⟨w.heap.size,2,none⟩=some (.int .i64 h):=fun y=>by simpa using (zk.gr y).cell 2 _ rfl
 obtain⟨nn,hnn⟩:∃ nn,3*f+1=nn:=⟨_,rfl⟩
 rw [hnn]at CN HD
 clear hnn hbad hf zk
 by_cases hA:(R.length:Int)=nn
 ·have e1:((R.length:Int) != nn)=false:=by simp [hA]
  by_cases hB:h<0
  ·have HE:Hid (cyE f R.length h=1):=hQ9 (by rw [HD.out,if_neg (by omega)])
   clear hA HD
   refine zg (za w1) (by kernel_rfl) (by kernel_rfl) ?_
   repeat (go_big_quiet_step (first | (go_at_call 78;exact callG (CN.out _))))
   refine wpQuiet_nil ?_
   rintro w8 ⟨⟨w8',g8⟩,rfl⟩
   have G8:=zb G1 g8
   go_wp2_with fail
   go_ret
   exact⟨by rw [HE.out];rfl,G8⟩
  by_cases hC:8<h
  ·have HE:Hid (cyE f R.length h=1):=hQ9 (by rw [HD.out,if_neg (by omega)])
   clear hA HD
   refine zg (za w1) (by kernel_rfl) (by kernel_rfl) ?_
   repeat (go_big_quiet_step (first | (go_at_call 78;exact callG (CN.out _))))
   refine wpQuiet_nil ?_
   rintro w8 ⟨⟨w8',g8⟩,rfl⟩
   have G8:=zb G1 g8
   go_wp2_with fail
   go_ret
   exact⟨by rw [HE.out];rfl,G8⟩
  have HE:Hid (cyE f R.length h=0):=hQ9 (by rw [HD.out,if_pos ⟨hA,by omega,by omega⟩])
  clear hA HD
  refine zg (za w1) (by kernel_rfl) (by kernel_rfl) ?_
  repeat (go_big_quiet_step (first | (go_at_call 78;exact callG (CN.out _))))
  refine wpQuiet_nil ?_
  rintro w8 ⟨⟨w8',g8⟩,rfl⟩
  have G8:=zb G1 g8
  go_wp2_with fail
  go_ret
  exact⟨by rw [HE.out];rfl,G8⟩
 ·have e1:((R.length:Int) != nn)=true:=by simp [hA]
  have HE:Hid (cyE f R.length h=1):=hQ9 (by rw [HD.out,if_neg (fun h=>hA h.1)])
  clear hA HD
  refine zg (za w1) (by kernel_rfl) (by kernel_rfl) ?_
  repeat (go_big_quiet_step (first | (go_at_call 78;exact callG (CN.out _))))
  refine wpQuiet_nil ?_
  rintro w8 ⟨⟨w8',g8⟩,rfl⟩
  have G8:=zb G1 g8
  go_wp2_with fail
  go_ret
  exact⟨by rw [HE.out];rfl,G8⟩
theorem zix (cm:Nat) (who at_ sw lf:Int) (s:Nat→Nat) (A:Option Addr) (c:Nat) (l:List Nat) (hc:cm<18446744073709551616) (hw:in64 who) (ha:in64 at_) (hsw:in64 sw) (hlf:in64 lf) (hl:l.length≤1000) (hs:∀ k,k<18→s k<18446744073709551616) (hb:∀ n∈l,n<18446744073709551616) (w:World) (hr:Rd w w.heap.size A (u64L l)) :
 Calls Tryz.prog 223 #[.agg (stC cm who at_ sw lf s (.slice A l.length c))] w fun e w'=>e=.returned (.string ⟨(stT cm who at_ sw lf s l).toArray⟩)∧Grew w w':=by
 have z0:=Ag.new w 233 (stC cm who at_ sw lf s (.slice A l.length c))
 have g0:=ze (za w) (.cells (stC cm who at_ sw lf s (.slice A l.length c)) 233)
 have hus:=Tryz.underlying68
 have HSI:Hid (zI9 68=some (sgC sw lf s (.slice A l.length c)).toList.length):=hQ9 yI
 have hlen:=zbs cm who at_ sw lf s l hw ha hsw hlf hl
 have c0:=fun W=>jp (cm:Nat) ⟨by omega,by omega⟩ W
 simp only [Int.toNat_natCast]at c0
 have C0:=hQ9 c0
 clear c0
 have C1:=hQ9 (fun W=>xx who hw.1 hw.2 W)
 have C2:=hQ9 (fun W=>xx at_ ha.1 ha.2 W)
 have C3:=hQ9 (fun W h1=>zfz sw lf s A c l hsw hlf hl hs hb W h1)
 have CJ:Hid (∀(A4:Option Addr) (W:World),Rd W W.heap.size A4 (strL [⟨(hexL cm).toArray⟩,⟨(Lib.itoa who).toArray⟩,⟨(Lib.itoa at_).toArray⟩,⟨(sgT sw lf s l).toArray⟩])→Calls Tryz.prog 93 #[.slice A4 4 4] W fun e w'=>e=.returned (.string ⟨(stT cm who at_ sw lf s l).toArray⟩)∧Grew W w'):=hQ9 (fun A4 W hR=>by
  have:=kB A4 4 [⟨(hexL cm).toArray⟩,⟨(Lib.itoa who).toArray⟩,⟨(Lib.itoa at_).toArray⟩,⟨(sgT sw lf s l).toArray⟩] (by simp) (by simp only [stT]at hlen;simp [bys]at hlen ⊢;omega) W hR
  simpa [bys,stT]using this)
 have HR:=hQ9 hr
 clear hc hw ha hlen hsw hlf hl hs hb hr
 generalize (⟨(stT cm who at_ sw lf s l).toArray⟩:ByteArray)=tj at *
 generalize (⟨(hexL cm).toArray⟩:ByteArray)=t0 at *
 generalize (⟨(Lib.itoa who).toArray⟩:ByteArray)=t1 at *
 generalize (⟨(Lib.itoa at_).toArray⟩:ByteArray)=t2 at *
 generalize (⟨(sgT sw lf s l).toArray⟩:ByteArray)=t3 at *
 go_enter Tryz.func223,Tryz.ntmps223
 go_wp2_with fail
 generalize w.alloc (.cells (stC cm who at_ sw lf s (.slice A l.length c)) 233)=w1 at *
 have z1:=z0
 have G0:=hQ9 g0
 have HRR:=hQ9 (fun y (g:Grew w1 y)=>(HR.out.gr G0.out).gr g)
 have HC0:Hid (∀ y,Grew w1 y→y.cell? ⟨w.heap.size,0,none⟩=some (.int .u64 (cm:Nat))):=hQ9 (fun y g=>by simpa using (z1.grew g).cell 0 _ rfl)
 have HC1:Hid (∀ y,Grew w1 y→y.cell? ⟨w.heap.size,1,none⟩=some (.int .i64 who)):=hQ9 (fun y g=>by simpa using (z1.grew g).cell 1 _ rfl)
 have HC2:Hid (∀ y,Grew w1 y→y.cell? ⟨w.heap.size,2,none⟩=some (.int .i64 at_)):=hQ9 (fun y g=>by simpa using (z1.grew g).cell 2 _ rfl)
 have HCM:Hid (∀ y,Grew w1 y→y.rangeAt w.heap.size 3 (sgC sw lf s (.slice A l.length c)).toList):=hQ9 (fun y g=>xF (z1.grew g).cell)
 clear z0 z1 g0
 refine zv 14 (fun i=>match i with
  | 0=>fun v _=>v=.pointer (some ⟨w.heap.size,0,none⟩)
  | 1=>fun v _=>v=.int .u64 (cm:Nat)
  | 2=>fun v _=>v=.string t0
  | 3=>fun v _=>v=.pointer (some ⟨w.heap.size,1,none⟩)
  | 4=>fun v _=>v=.int .i64 who
  | 5=>fun v _=>v=.string t1
  | 6=>fun v _=>v=.pointer (some ⟨w.heap.size,2,none⟩)
  | 7=>fun v _=>v=.int .i64 at_
  | 8=>fun v _=>v=.string t2
  | 9=>fun v _=>v=.pointer (some ⟨w.heap.size,3,none⟩)
  | 10=>fun v _=>v=.agg (sgC sw lf s (.slice A l.length c))
  | 11=>fun v _=>v=.string t3
  | 12=>fun v w=>FourS w [t0,t1,t2,t3] v
  | 13=>fun v _=>v=.string tj
  | _=>fun _ _=>True) (by kernel_rfl) (by kernel_rfl) ?_ ?_ ?_
 ·intro i v x y h hg
  match i,h with
  | 0,h | 1,h | 2,h | 3,h | 4,h | 5,h | 6,h | 7,h | 8,h | 9,h | 10,h | 11,h | 13,h=>exact h
  | 12,h=>exact FourS.gr h hg
  | m+14,_=>trivial
 ·simp only [actOf,tk1,tk0,dr1,dr0,Act.put,si1,st1,st0,Nat.reduceAdd]
  refine⟨?_,?_,?_,?_,?_,?_,?_,?_,?_,?_,?_,?_,?_,?_,trivial⟩
  ·intro vs y hg hd
   dsimp only
   go_wp2_with fail
   exact⟨rfl,_,rfl,za _,rfl⟩
  ·intro vs y hg hd
   obtain⟨h0,_⟩:=hd
   replace h0:=h0 rfl
   dsimp only
   rw [show vs 0=_ from h0]
   have hc:=HC0.out y hg
   go_wp2_with fail
   exact⟨rfl,_,rfl,za _,rfl⟩
  ·intro vs y hg hd
   obtain⟨h1,_⟩:=hd
   replace h1:=h1 rfl
   dsimp only
   rw [show vs 1=_ from h1]
   go_wp2_with(go_at_call 94;refine(C0.out y).mono ?_;rintro e z ⟨rfl,gz⟩)
   exact⟨rfl,_,rfl,gz,rfl⟩
  ·intro vs y hg hd
   dsimp only
   go_wp2_with fail
   exact⟨rfl,_,rfl,za _,rfl⟩
  ·intro vs y hg hd
   obtain⟨h3,_⟩:=hd
   replace h3:=h3 rfl
   dsimp only
   rw [show vs 3=_ from h3]
   have hc:=HC1.out y hg
   go_wp2_with fail
   exact⟨rfl,_,rfl,za _,rfl⟩
  ·intro vs y hg hd
   obtain⟨h4,_⟩:=hd
   replace h4:=h4 rfl
   dsimp only
   rw [show vs 4=_ from h4]
   go_wp2_with(go_at_call 95;refine(C1.out y).mono ?_;rintro e z ⟨rfl,gz⟩)
   exact⟨rfl,_,rfl,gz,rfl⟩
  ·intro vs y hg hd
   dsimp only
   go_wp2_with fail
   exact⟨rfl,_,rfl,za _,rfl⟩
  ·intro vs y hg hd
   obtain⟨h6,_⟩:=hd
   replace h6:=h6 rfl
   dsimp only
   rw [show vs 6=_ from h6]
   have hc:=HC2.out y hg
   go_wp2_with fail
   exact⟨rfl,_,rfl,za _,rfl⟩
  ·intro vs y hg hd
   obtain⟨h7,_⟩:=hd
   replace h7:=h7 rfl
   dsimp only
   rw [show vs 7=_ from h7]
   go_wp2_with(go_at_call 95;refine(C2.out y).mono ?_;rintro e z ⟨rfl,gz⟩)
   exact⟨rfl,_,rfl,gz,rfl⟩
  ·intro vs y hg hd
   dsimp only
   go_wp2_with fail
   exact⟨rfl,_,rfl,za _,rfl⟩
  ·intro vs y hg hd
   obtain⟨h9,_⟩:=hd
   replace h9:=h9 rfl
   dsimp only
   rw [show vs 9=_ from h9]
   have hm:=HCM.out y hg
   go_wp2_with(with_reducible refine wpList_load_mid rfl 68 (.tmp 12) rfl w.heap.size 3 rfl (sgC sw lf s (.slice A l.length c)).toList _ hm hus rfl HSI.out ?_)
   exact⟨rfl,_,rfl,za _,rfl⟩
  ·intro vs y hg hd
   obtain⟨h10,_⟩:=hd
   replace h10:=h10 rfl
   dsimp only
   rw [show vs 10=_ from h10]
   go_wp2_with(go_at_call 96;refine(C3.out y (HRR.out y hg)).mono ?_;rintro e z ⟨rfl,gz⟩)
   exact⟨rfl,_,rfl,gz,rfl⟩
  ·intro vs y hg hd
   obtain⟨h2,h5,h8,h11,_⟩:=hd
   replace h2:=h2 rfl
   replace h5:=h5 rfl
   replace h8:=h8 rfl
   replace h11:=h11 rfl
   dsimp only
   rw [show vs 2=_ from h2,show vs 5=_ from h5,show vs 8=_ from h8,show vs 11=_ from h11]
   go_wp2_with fail
   exact⟨rfl,_,rfl,ze (za _) _,⟨_,rfl,yD y _ _⟩⟩
  ·intro vs y hg hd
   obtain⟨h12,_⟩:=hd
   replace h12:=h12 rfl
   dsimp only
   obtain⟨A4,hv,r4⟩:=FourS.out h12
   rw [hv]
   go_wp2_with(go_at_call 93;refine(CJ.out A4 y r4).mono ?_;rintro e z ⟨rfl,gz⟩)
   exact⟨rfl,_,rfl,gz,rfl⟩
 ·intro vs y hg hJ
  have j0:vs 0=.pointer (some ⟨w.heap.size,0,none⟩):=hJ 0 (by decide)
  have j1:vs 1=.int .u64 (cm:Nat):=hJ 1 (by decide)
  have j2:vs 2=.string t0:=hJ 2 (by decide)
  have j3:vs 3=.pointer (some ⟨w.heap.size,1,none⟩):=hJ 3 (by decide)
  have j4:vs 4=.int .i64 who:=hJ 4 (by decide)
  have j5:vs 5=.string t1:=hJ 5 (by decide)
  have j6:vs 6=.pointer (some ⟨w.heap.size,2,none⟩):=hJ 6 (by decide)
  have j7:vs 7=.int .i64 at_:=hJ 7 (by decide)
  have j8:vs 8=.string t2:=hJ 8 (by decide)
  have j9:vs 9=.pointer (some ⟨w.heap.size,3,none⟩):=hJ 9 (by decide)
  have j10:vs 10=.agg (sgC sw lf s (.slice A l.length c)):=hJ 10 (by decide)
  have j11:vs 11=.string t3:=hJ 11 (by decide)
  have j13:vs 13=.string tj:=hJ 13 (by decide)
  have s15:=hJ 12 (by decide)
  clear hJ
  simp only [actOf,tk1,tk0,dr1,dr0,Act.put,si1,st1,st0,Nat.reduceAdd]
  rw [j13]
  clear j0 j1 j2 j3 j4 j5 j6 j7 j8 j9 j10 j11 s15 j13
  go_wp2_with fail
  go_ret
  exact⟨rfl,zb G0.out hg⟩
end Go.Proofs.YtkpnheenacchhaaGreatDoor
