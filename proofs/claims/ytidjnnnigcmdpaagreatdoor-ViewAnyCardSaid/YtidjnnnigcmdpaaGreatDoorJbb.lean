/- key.New. -/
import Derived.Test.YtidjnnnigcmdpaaGreatDoorJzz
import Derived.Laws.MakeOwn
import Derived.Deep.OwnRows
import Derived.Test.YtidjnnnigcmdpaaGreatDoorJba
import Derived.Test.YtidjnnnigcmdpaaGreatDoorJal
import Derived.Laws.Tables
import Derived.Laws.ResultCell
import Derived.Deep.MidRow
import Derived.ChangeKeysEq
import Derived.Test.YtidjnnnigcmdpaaGreatDoorJam
set_option maxHeartbeats 2000000
set_option maxRecDepth 100000
set_option linter.unusedSimpArgs false
set_option linter.unusedVariables false
set_option linter.unnecessarySimpa false
namespace Go.Proofs.YtidjnnnigcmdpaaGreatDoor
open Go.RowKit
noncomputable def pubsL (sd:Int) (n:Nat):List Nat:=(List.range n).map fun i:Nat=>pubN (secN sd (i:Int))
theorem yl (sd:Int) (n:Nat):(pubsL sd n).length=n:=by simp [pubsL]
theorem zia (n:Nat) (z:Value) (f:Nat→Value):madeCells #[z] n=rowF n f z 0:=by
 rw [yg]
 by_cases h:n=0
 ·subst h;simp [madeCells]
 ·apply Array.ext
  ·simp [madeCells]
  ·intro i h1 h2
   have hm:i%1=0:=Nat.mod_one i
   simp [madeCells,hm]
theorem zgb (sd:Int) (n:Nat):(u64L (pubsL sd n)).toArray=rowF n (fun i=>.int .u64 (pubN (secN sd i):Nat)) (.int .u64 0) n:=by
 rw [yy];simp [u64L,pubsL]
theorem zkj (who sd:Int) (h:Nat) (hw:0≤who∧who≤15) (hh:h≤8) (hs:U64 sd) (w:World) :
 Calls Tryz.prog 109 #[.int .i64 who,.int .u64 sd,.int .i64 (h:Int)] w fun e w'=>e=.returned (.tuple #[.pointer (some ⟨w.heap.size+1,0,none⟩),.int .i64 0])∧Grew w w'∧KyAt w' (w.heap.size+1) w.heap.size who sd (pubsL sd (2^h)) 0 0:=by
 have h0:(0:Int)≤(h:Int):=by omega
 have h01:decide ((h:Int)<0)=false:=decide_eq_false (by omega)
 have h8:¬(8:Int)<(h:Int):=by omega
 have h1:¬who<0:=by omega
 have h2:¬15<who:=by omega
 have hn:2^h≤256:=by
  have:2^h≤2^8:=Nat.pow_le_pow_right (by decide) hh
  simpa using this
 have e2:wrap64 ((2:Int)^h)=((2^h:Nat):Int):=by
  have:((2:Int)^h)=((2^h:Nat):Int):=by simp
  rw [this]
  generalize 2^h=n at *
  unfold wrap64;omega
 generalize 2^h=n at *
 have hmk:=run_make_row' (P:=Tryz.prog) 47 35 (.int .u64 0) 8 Tryz.underlying47 infoD rfl .i64 .i64 n (by omega) (by omega) w
 rw [zia n _ (fun i=>.int .u64 (pubN (secN sd i):Nat))]at hmk
 have CS:=hQ9 (fun(k:Nat) (hk:k<256) W=>jy sd k hs ⟨by omega,by omega⟩ W)
 have CP:=hQ9 (fun(k:Nat) W=>zj7 (secN sd k) W (fun j _=>kd _ _ _))
 have HP:=hQ9 (zgb sd n)
 have HL:=hQ9 (yl sd n)
 have kp0:Bk (w.alloc (.cells (rowF n (fun i=>.int .u64 (pubN (secN sd i):Nat)) (.int .u64 0) 0) 35)) w.heap.size 35 (rowF n (fun i=>.int .u64 (pubN (secN sd i):Nat)) (.int .u64 0) 0):=Bk.new _ _ _
 have kp1:=kp0.alloc (.cells (kyC who sd w.heap.size n 0 0) 256)
 have kb1:Bk ((w.alloc (.cells (rowF n (fun i=>.int .u64 (pubN (secN sd i):Nat)) (.int .u64 0) 0) 35)).alloc (.cells (kyC who sd w.heap.size n 0 0) 256)) (w.heap.size+1) 256 (kyC who sd w.heap.size n 0 0):=by
  have:=Bk.new (w.alloc (.cells (rowF n (fun i=>.int .u64 (pubN (secN sd i):Nat)) (.int .u64 0) 0) 35)) 256 (kyC who sd w.heap.size n 0 0)
  simpa using this
 have G1:=zg (zg (zc w) (.cells (rowF n (fun i=>.int .u64 (pubN (secN sd i):Nat)) (.int .u64 0) 0) 35)) (.cells (kyC who sd w.heap.size n 0 0) 256)
 have hc0:=kb1.cell 2
 have hc0:((w.alloc (.cells (rowF n (fun i=>.int .u64 (pubN (secN sd i):Nat)) (.int .u64 0) 0) 35)).alloc (.cells (kyC who sd w.heap.size n 0 0) 256)).cell? ⟨w.heap.size+1,2,none⟩=some (.slice (some ⟨w.heap.size,0,none⟩) n n):=hc0
 unfold kyC at hc0 kp1 kb1 G1
 have HF:Hid (∀ k,k<n→(rowF n (fun i=>.int .u64 (pubN (secN sd i):Nat)) (.int .u64 0) k).setIfInBounds k (.int .u64 (pubN (secN sd k):Nat))=rowF n (fun i=>.int .u64 (pubN (secN sd i):Nat)) (.int .u64 0) (k+1)):=hQ9 (fun k hk=>yi n _ _ k hk)
 go_enter Tryz.func109,Tryz.ntmps109
 go_wp2_with fail
 clear hmk hc0 kp0
 have hpb:w.heap.size≠w.heap.size+1:=by omega
 have hpw:w.heap.size≤w.heap.size:=Nat.le_refl _
 go_loopw [36] (fun iv wr=>∃ k:Nat,k≤n∧iv=.int .i64 k∧Bk wr w.heap.size 35 (rowF n (fun i=>.int .u64 (pubN (secN sd i):Nat)) (.int .u64 0) k)∧Bk wr (w.heap.size+1) 256 #[.int .i64 who,.int .u64 sd,.slice (some ⟨w.heap.size,0,none⟩) n n,.int .i64 0,.int .i64 0]∧Grew w wr) (fun iv _=>n-(intOf iv).toNat)
 case atStart=>exact⟨0,Nat.zero_le _,rfl,kp1,kb1,G1⟩
 case round =>
  clear kp1 kb1 G1
  obtain⟨k,hk,rfl,hkp,hkb,hgr⟩:=hrel
  by_cases hlt:k<n
  ·have hk0:(0:Int)≤(k:Int):=by omega
   have hk1:(k:Int)<(n:Int):=by omega
   have hk6:k<256:=by omega
   have e1:IntKind.i64.wrap ((k:Int)+1)=((k+1:Nat):Int):=by rw [IntWalk.i64_in _ (by omega)];omega
   have HSET:=hQ9 (HF.out k hlt)
   go_wp2_with fail
   refine zy 10 (fun i=>match i with
    | 0=>fun v _=>v=.pointer (some ⟨w.heap.size+1,0,none⟩)
    | 1=>fun v _=>v=.pointer (some ⟨w.heap.size+1,0,none⟩)
    | 2=>fun v _=>v=.pointer (some ⟨w.heap.size+1,2,none⟩)
    | 3=>fun v _=>v=.slice (some ⟨w.heap.size,0,none⟩) n n
    | 4=>fun v _=>v=.int .i64 (k:Int)
    | 5=>fun v _=>v=.int .u64 sd
    | 6=>fun v _=>v=.int .i64 (k:Int)
    | 7=>fun v _=>v=.agg (arrU (secN sd k))
    | 8=>fun v _=>v=.int .u64 (pubN (secN sd k):Nat)
    | 9=>fun v _=>v=.pointer (some ⟨w.heap.size,k,none⟩)
    | _=>fun _ _=>True) (by kernel_rfl) (by kernel_rfl) ?_ ?_ ?_
   ·intro i v x y h hg
    match i,h with
    | 0,h | 1,h | 2,h | 3,h | 4,h | 5,h | 6,h | 7,h | 8,h | 9,h=>exact h
    | m+10,_=>trivial
   ·simp only [actOf,tk1,tk0,dr1,dr0,Act.put,si1,st1,st0,Nat.reduceAdd]
    refine⟨?_,?_,?_,?_,?_,?_,?_,?_,?_,?_,trivial⟩
    ·intro vs y hg hd
     dsimp only
     go_wp2_with fail
     exact⟨rfl,_,rfl,zc _,rfl⟩
    ·intro vs y hg hd
     obtain⟨h0,_⟩:=hd
     replace h0:=h0 rfl
     dsimp only
     rw [show vs 0=_ from h0]
     go_wp2_with fail
     exact⟨rfl,_,rfl,zc _,rfl⟩
    ·intro vs y hg hd
     obtain⟨h1,_⟩:=hd
     replace h1:=h1 rfl
     dsimp only
     rw [show vs 1=_ from h1]
     go_wp2_with fail
     exact⟨rfl,_,rfl,zc _,rfl⟩
    ·intro vs y hg hd
     obtain⟨h2,_⟩:=hd
     replace h2:=h2 rfl
     dsimp only
     rw [show vs 2=_ from h2]
     have hc:=(kh hkb hg).cell 2
     have hc:y.cell? ⟨w.heap.size+1,2,none⟩=some (.slice (some ⟨w.heap.size,0,none⟩) n n):=hc
     go_wp2_with fail
     exact⟨rfl,_,rfl,zc _,rfl⟩
    ·intro vs y hg hd
     dsimp only
     go_wp2_with fail
     exact⟨rfl,_,rfl,zc _,rfl⟩
    ·intro vs y hg hd
     dsimp only
     go_wp2_with fail
     exact⟨rfl,_,rfl,zc _,rfl⟩
    ·intro vs y hg hd
     dsimp only
     go_wp2_with fail
     exact⟨rfl,_,rfl,zc _,rfl⟩
    ·intro vs y hg hd
     obtain⟨h5,h6,_⟩:=hd
     replace h5:=h5 rfl
     replace h6:=h6 rfl
     dsimp only
     rw [show vs 5=_ from h5,show vs 6=_ from h6]
     go_wp2_with(go_at_call 159;refine(CS.out k hk6 y).mono ?_;rintro e z ⟨rfl,gz⟩)
     exact⟨rfl,_,rfl,gz,rfl⟩
    ·intro vs y hg hd
     obtain⟨h7,_⟩:=hd
     replace h7:=h7 rfl
     dsimp only
     rw [show vs 7=_ from h7]
     go_wp2_with(go_at_call 158;refine(CP.out k y).mono ?_;rintro e z ⟨rfl,gz⟩)
     exact⟨rfl,_,rfl,gz,rfl⟩
    ·intro vs y hg hd
     obtain⟨h3,h4,_⟩:=hd
     replace h3:=h3 rfl
     replace h4:=h4 rfl
     dsimp only
     rw [show vs 3=_ from h3,show vs 4=_ from h4]
     go_wp2_with fail
     exact⟨rfl,_,rfl,zc _,rfl⟩
   ·intro vs y hg hJ
    have j0:vs 0=.pointer (some ⟨w.heap.size+1,0,none⟩):=hJ 0 (by decide)
    have j1:vs 1=.pointer (some ⟨w.heap.size+1,0,none⟩):=hJ 1 (by decide)
    have j2:vs 2=.pointer (some ⟨w.heap.size+1,2,none⟩):=hJ 2 (by decide)
    have j3:vs 3=.slice (some ⟨w.heap.size,0,none⟩) n n:=hJ 3 (by decide)
    have j4:vs 4=.int .i64 (k:Int):=hJ 4 (by decide)
    have j5:vs 5=.int .u64 sd:=hJ 5 (by decide)
    have j6:vs 6=.int .i64 (k:Int):=hJ 6 (by decide)
    have j7:vs 7=.agg (arrU (secN sd k)):=hJ 7 (by decide)
    have j8:vs 8=.int .u64 (pubN (secN sd k):Nat):=hJ 8 (by decide)
    have j9:vs 9=.pointer (some ⟨w.heap.size,k,none⟩):=hJ 9 (by decide)
    simp only [actOf,tk1,tk0,dr1,dr0,Act.put,si1,st1,st0,Nat.reduceAdd]
    have mp:=kh hkp hg
    have mk:=kh hkb hg
    have cu:y.cell? ⟨w.heap.size,k,none⟩=some (.int .u64 0):=(mp.cell k).trans (yv _ _ _ _ hlt)
    have fu:=mp.frozen k
    have GG:=ze hgr hg
    rw [j8,j9]
    clear hJ j0 j1 j2 j3 j4 j5 j6 j7
    go_wp2_with fail
    have ms:=mp.set_ k (.int .u64 (pubN (secN sd k):Nat))
    rw [HSET.out]at ms
    have mk2:=mk.far (p:=⟨w.heap.size,k,none⟩) (show w.heap.size+1≠w.heap.size from Ne.symm hpb) (.int .u64 (pubN (secN sd k):Nat))
    have G2:=GG.setCell (p:=⟨w.heap.size,k,none⟩) (show w.heap.size≤w.heap.size from hpw) (.int .u64 (pubN (secN sd k):Nat))
    go_roundw
    case rel=>exact⟨k+1,by omega,by go_num,ms,mk2,G2⟩
    case measure=>simp [intOf];omega
  ·obtain rfl:k=n:=by omega
   go_wp2_with fail
   go_ret2
   refine⟨rfl,hgr,⟨?_,?_,?_⟩⟩
   ·rw [HL.out];exact hkb
   ·rw [HP.out];exact hkp
   ·exact hpb
def sgC (who leaf:Int) (s:Nat→Nat) (pv:Value):Array Value:=#[.int .i64 who,.int .i64 leaf,u64V (s 0),u64V (s 1),u64V (s 2),u64V (s 3),u64V (s 4),u64V (s 5),u64V (s 6),u64V (s 7),u64V (s 8),u64V (s 9),u64V (s 10),u64V (s 11),u64V (s 12),u64V (s 13),u64V (s 14),u64V (s 15),u64V (s 16),u64V (s 17),pv]
theorem yL (who leaf:Int) (s:Nat→Nat) (A:Option Addr) (n c:Nat):(sgC who leaf s (.slice A n c)).all (·.oneCell')=true:=by simp [sgC,u64V,Value.oneCell']
theorem zib (who leaf:Int) (s:Nat→Nat) (A:Option Addr) (n c:Nat):Tryz.prog.built 67 [(0,.int .i64 who),(1,.int .i64 leaf),(2,.agg (arrU s)),(3,.slice A n c)]=some (sgC who leaf s (.slice A n c)):=by kernel_rfl
theorem zaa:Tryz.prog.built 67 []=some (#[.int .i64 0,.int .i64 0,.int .u64 0,.int .u64 0,.int .u64 0,.int .u64 0,.int .u64 0,.int .u64 0,.int .u64 0,.int .u64 0,.int .u64 0,.int .u64 0,.int .u64 0,.int .u64 0,.int .u64 0,.int .u64 0,.int .u64 0,.int .u64 0,.int .u64 0,.int .u64 0,.slice none 0 0]):=by kernel_rfl
theorem zL:(Tryz.prog.info? 67).map (·.size)=some 21:=by kernel_rfl
theorem zT {P:Program} {fn:Func} {p u:Tmp} {ty:TypeId} (h:fn.results=#[.cell p ty,.tmp u]) (tmps:Array Value) (w:World) (b:Nat) (cs:List Value) (d:TypeDesc) (v:Value)
 (hp:tmps.getD p undef=.pointer (some ⟨b,0,none⟩)) (hv:tmps.getD u undef=v) (hz:Ag w b cs) (hu:P.underlying ty=some d) (hd:d.isRow=true) (hi:(P.info? ty).map (·.size)=some cs.length) :
 (results fn tmps).run P w=.ok (.tuple #[.agg cs.toArray,v]) w:=by
 rw [results_cell_tmp h,hp,hv]
 simp [asAddr,run_loadVar_mid w b 0 ty cs d hz.cell hu hd hi]
theorem zC {P:Program} {ops:Array Oper} {rest:List Oper} {o:Oper} {a:Act} {w:World} {Q:Exit→Act→World→Prop} (hg:o.guard=none) (t:TypeId) (parts:Array (Nat × Operand)) (ho:o.op=.build t parts) (cells:Array Value)
 (hc:P.built t (parts.map fun(i,x)=>(i,a.eval x)).toList=some cells) (h:wpList P ops Q rest (a.put o.dst (.agg cells)) w):wpList P ops Q (o::rest) a w :=
 wpList_build hg t parts ho (by rw [hc];rfl) (by rw [hc];exact h)
structure PV (w:World) (B:Nat) (l:List Nat) (v:Value):Prop where
 out:∃ A c,v=.slice A l.length c∧Rd w w.heap.size A (u64L l)∧(∀ ad,A=some ad→B≤ad.block)
structure PT (w:World) (B:Nat) (l:List Nat) (n:Int) (v:Value):Prop where
 out:∃ A c,v=.tuple #[.slice A l.length c,.int .i64 n]∧Rd w w.heap.size A (u64L l)∧(∀ ad,A=some ad→B≤ad.block)
theorem PV.gr {w w':World} {B:Nat} {l:List Nat} {v:Value} (h:PV w B l v) (g:Grew w w'):PV w' B l v:=by
 obtain⟨A,c,h1,h2,h3⟩:=h.out
 exact⟨A,c,h1,h2.gr g,h3⟩
theorem PT.gr {w w':World} {B:Nat} {l:List Nat} {n:Int} {v:Value} (h:PT w B l n v) (g:Grew w w'):PT w' B l n v:=by
 obtain⟨A,c,h1,h2,h3⟩:=h.out
 exact⟨A,c,h1,h2.gr g,h3⟩
structure NewAg (w:World) (B:Nat) (cs:List Value) (v:Value):Prop where
 out:∃ q,v=.pointer (some ⟨q,0,none⟩)∧Ag w q cs∧B≤q
theorem NewAg.gr {w w':World} {B:Nat} {cs:List Value} {v:Value} (h:NewAg w B cs v) (g:Grew w w'):NewAg w' B cs v:=by
 obtain⟨q,h1,h2,h3⟩:=h.out
 exact⟨q,h1,h2.grew g,h3⟩
theorem Rd.kp {S:Nat→Prop} {w w':World} {B:Nat} {A:Option Addr} {xs:List Value} (h:Rd w B A xs) (k:Kp S w w') (hB:B≤w.heap.size) (hS:∀ ad,A=some ad→ad.block<B→¬S ad.block):Rd w' B A xs:=by
 intro i hi
 obtain⟨ad,e,hb,hc⟩:=h i hi
 refine⟨ad,e,hb,?_⟩
 rw [←hc]
 exact World.cell?_of_block (by rw [zv];exact k.block ad.block (by omega) (hS ad e hb))
theorem tn_kp {S:Nat→Prop} {g:Nat} {a w w':World} (h:Tn g a w) (k:Kp S w w') (hS:∀ i,S i→i=g∨a.heap.size≤i):Tn g a w' :=
 ⟨k.os.trans h.os,k.tape.trans h.tape,k.output.trans h.output,Nat.le_trans h.size k.size,fun i hi hn=>(k.block i (Nat.lt_of_lt_of_le hi h.size) (fun hs=>by
  rcases hS i hs with h1 | h1
  ·exact hn (by rw [h1])
  ·omega)).trans (h.block i hi hn)⟩
theorem KyAt.kp {S:Nat→Prop} {w w':World} {b p:Nat} {who sd:Int} {l:List Nat} {nx rs:Nat} (h:KyAt w b p who sd l nx rs) (k:Kp S w w') (h1:¬S b) (h2:¬S p):KyAt w' b p who sd l nx rs :=
 ⟨(k.block b h.key.lt h1).trans h.key,(k.block p h.pub.lt h2).trans h.pub,h.ne⟩
theorem xW (w:World):Ag (w.alloc (.cells (zS21) 67)) w.heap.size (zS21).toList:=Ag.new _ _ _
theorem zet (b p:Nat) (who sd:Int) (l:List Nat) (nx rs:Nat) (hl:l.length≤256) (hn:nx≤l.length) (hr:rs≤l.length) (d:Int) (hq:nx=l.length) (w:World) (h:KyAt w b p who sd l nx rs) :
 Calls Tryz.prog 112 #[.pointer (some ⟨b,0,none⟩),.int .u64 d] w fun e w'=>e=.returned (.tuple #[.agg (zS21),.int .i64 14])∧Grew w w':=by
 have g0:=zg (zc w) (.cells (zS21) 67)
 have z0:=xW w
 have k0:=h.grew g0
 have hus:=Tryz.underlying67
 have bz:∀ W,(Instr.build 67 #[]).run Tryz.prog W=.ok (.agg (#[.int .i64 0,.int .i64 0,.int .u64 0,.int .u64 0,.int .u64 0,.int .u64 0,.int .u64 0,.int .u64 0,.int .u64 0,.int .u64 0,.int .u64 0,.int .u64 0,.int .u64 0,.int .u64 0,.int .u64 0,.int .u64 0,.int .u64 0,.int .u64 0,.int .u64 0,.int .u64 0,.slice none 0 0])) W:=fun W=>run_build W 67 #[] _ zaa
 have CL:=hQ9 (q9 b p who sd l nx rs hl hn _ k0)
 rw [show(l.length:Int)-(nx:Int)=0 by omega]at CL
 clear h k0
 go_enter Tryz.func112,Tryz.ntmps112
 go_wp2_with fail
 refine(CL.out).mono ?_
 rintro e w1 ⟨rfl,gg⟩
 have z1:=z0.grew gg
 have g1:=ze g0 gg
 clear CL z0 g0 gg
 go_wp2_with(first
  | (refine wpList_store_mid rfl 67 (.tmp 4) (.tmp 12) rfl w.heap.size 0 (#[.int .i64 0,.int .i64 0,.int .u64 0,.int .u64 0,.int .u64 0,.int .u64 0,.int .u64 0,.int .u64 0,.int .u64 0,.int .u64 0,.int .u64 0,.int .u64 0,.int .u64 0,.int .u64 0,.int .u64 0,.int .u64 0,.int .u64 0,.int .u64 0,.int .u64 0,.int .u64 0,.slice none 0 0]) rfl rfl (z1.thereN 21 rfl) zL (by simp [Value.oneCell']) ?_;have z2:=Ag.set (vs:=(#[.int .i64 0,.int .i64 0,.int .u64 0,.int .u64 0,.int .u64 0,.int .u64 0,.int .u64 0,.int .u64 0,.int .u64 0,.int .u64 0,.int .u64 0,.int .u64 0,.int .u64 0,.int .u64 0,.int .u64 0,.int .u64 0,.int .u64 0,.int .u64 0,.int .u64 0,.int .u64 0,.slice none 0 0]).toList) z1 rfl;have g2:=zi (o:=0) (b:=w.heap.size) (#[.int .i64 0,.int .i64 0,.int .u64 0,.int .u64 0,.int .u64 0,.int .u64 0,.int .u64 0,.int .u64 0,.int .u64 0,.int .u64 0,.int .u64 0,.int .u64 0,.int .u64 0,.int .u64 0,.int .u64 0,.int .u64 0,.int .u64 0,.int .u64 0,.int .u64 0,.int .u64 0,.slice none 0 0]).toList g1 (Nat.le_refl _)))
 exact bodyPost_ret (zT Tryz.results112 _ _ w.heap.size _ _ _ rfl rfl z2 hus rfl zL) rfl ⟨rfl,g2⟩
theorem zeu (b p:Nat) (who sd:Int) (l:List Nat) (nx rs:Nat) (hl:l.length≤256) (hn:nx≤l.length) (hr:rs≤l.length) (d:Int) (hq:nx<l.length) (hs:rs≤nx) (w:World) (h:KyAt w b p who sd l nx rs) :
 Calls Tryz.prog 112 #[.pointer (some ⟨b,0,none⟩),.int .u64 d] w fun e w'=>e=.returned (.tuple #[.agg (zS21),.int .i64 16])∧Grew w w':=by
 have g0:=zg (zc w) (.cells (zS21) 67)
 have z0:=xW w
 have k0:=h.grew g0
 have hus:=Tryz.underlying67
 have bz:∀ W,(Instr.build 67 #[]).run Tryz.prog W=.ok (.agg (#[.int .i64 0,.int .i64 0,.int .u64 0,.int .u64 0,.int .u64 0,.int .u64 0,.int .u64 0,.int .u64 0,.int .u64 0,.int .u64 0,.int .u64 0,.int .u64 0,.int .u64 0,.int .u64 0,.int .u64 0,.int .u64 0,.int .u64 0,.int .u64 0,.int .u64 0,.int .u64 0,.slice none 0 0])) W:=fun W=>run_build W 67 #[] _ zaa
 have CL:=hQ9 (q9 b p who sd l nx rs hl hn _ k0)
 have hne:((l.length:Int)-(nx:Int)==0)=false:=by simpa using (by omega:¬(l.length:Int)-(nx:Int)=0)
 have hge:(rs:Int)≤(nx:Int):=by omega
 clear h
 go_enter Tryz.func112,Tryz.ntmps112
 go_wp2_with fail
 refine(CL.out).mono ?_
 rintro e w1 ⟨rfl,gg⟩
 have z1:=z0.grew gg
 have k1:=k0.grew gg
 have g1:=ze g0 gg
 have c3:=k1.c3
 have c4:=k1.c4
 clear CL z0 g0 gg k0
 go_wp2_with fail
 go_quiet (fail)
 have z2:=z1.grew (yr (zc w1) nq)
 have g2:=ze g1 (yr (zc w1) nq)
 clear c3 c4 k1 z1
 go_wp2_with(first
  | (refine wpList_store_mid rfl 67 (.tmp 4) (.tmp 22) rfl w.heap.size 0 (#[.int .i64 0,.int .i64 0,.int .u64 0,.int .u64 0,.int .u64 0,.int .u64 0,.int .u64 0,.int .u64 0,.int .u64 0,.int .u64 0,.int .u64 0,.int .u64 0,.int .u64 0,.int .u64 0,.int .u64 0,.int .u64 0,.int .u64 0,.int .u64 0,.int .u64 0,.int .u64 0,.slice none 0 0]) rfl rfl (z2.thereN 21 rfl) zL (by simp [Value.oneCell']) ?_;have z3:=Ag.set (vs:=(#[.int .i64 0,.int .i64 0,.int .u64 0,.int .u64 0,.int .u64 0,.int .u64 0,.int .u64 0,.int .u64 0,.int .u64 0,.int .u64 0,.int .u64 0,.int .u64 0,.int .u64 0,.int .u64 0,.int .u64 0,.int .u64 0,.int .u64 0,.int .u64 0,.int .u64 0,.int .u64 0,.slice none 0 0]).toList) z2 rfl;have g3:=zi (o:=0) (b:=w.heap.size) (#[.int .i64 0,.int .i64 0,.int .u64 0,.int .u64 0,.int .u64 0,.int .u64 0,.int .u64 0,.int .u64 0,.int .u64 0,.int .u64 0,.int .u64 0,.int .u64 0,.int .u64 0,.int .u64 0,.int .u64 0,.int .u64 0,.int .u64 0,.int .u64 0,.int .u64 0,.int .u64 0,.slice none 0 0]).toList g2 (Nat.le_refl _)))
 exact bodyPost_ret (zT Tryz.results112 _ _ w.heap.size _ _ _ rfl rfl z3 hus rfl zL) rfl ⟨rfl,g3⟩
theorem zkk (b p:Nat) (who sd:Int) (l:List Nat) (nx rs:Nat) (hl:l.length≤256) (hn:nx≤l.length) (hr:rs≤l.length) (d:Int) (hq:nx<l.length) (hs:nx<rs) (hkk:leavesOk l.length=true) (hbb:∀ n∈l,n<18446744073709551616) (hsd:U64 sd) (hd:U64 d) (w:World) (h:KyAt w b p who sd l nx rs) :
 Calls Tryz.prog 112 #[.pointer (some ⟨b,0,none⟩),.int .u64 d] w fun e w'=>(∃ A c,e=.returned (.tuple #[.agg (sgC who nx (signF (secN sd nx) d.toNat) (.slice A (pathN l nx).length c)),.int .i64 0])∧Rd w' w'.heap.size A (u64L (pathN l nx))∧(∀ ad,A=some ad→w.heap.size≤ad.block))∧Tn b w w'∧KyAt w' b p who sd l (nx+1) rs:=by
 have g0:=zg (zc w) (.cells (zS21) 67)
 have z0:=xW w
 have k0:=h.grew g0
 have hus:=Tryz.underlying67
 have bz:∀ W,(Instr.build 67 #[]).run Tryz.prog W=.ok (.agg (#[.int .i64 0,.int .i64 0,.int .u64 0,.int .u64 0,.int .u64 0,.int .u64 0,.int .u64 0,.int .u64 0,.int .u64 0,.int .u64 0,.int .u64 0,.int .u64 0,.int .u64 0,.int .u64 0,.int .u64 0,.int .u64 0,.int .u64 0,.int .u64 0,.int .u64 0,.int .u64 0,.slice none 0 0])) W:=fun W=>run_build W 67 #[] _ zaa
 have CL:=hQ9 (q9 b p who sd l nx rs hl hn _ k0)
 have hne:((l.length:Int)-(nx:Int)==0)=false:=by simpa using (by omega:¬(l.length:Int)-(nx:Int)=0)
 have hge:¬(rs:Int)≤(nx:Int):=by omega
 have CS:=hQ9 (fun W=>jy sd nx hsd ⟨by omega,by omega⟩ W)
 have CG:=hQ9 (fun W=>zhy (secN sd nx) d W (fun k _=>kd _ _ _) hd)
 have HK:=hQ9 hkk
 have HB:=hQ9 hbb
 have hnx:(0:Int)≤(nx:Int)∧(nx:Int)<256:=by omega
 have hrs:(0:Int)≤(rs:Int)∧(rs:Int)≤256:=by omega
 have hbw:b<w.heap.size:=h.key.lt
 have HW:=hQ9 h
 clear h hkk hbb hsd hd
 go_enter Tryz.func112,Tryz.ntmps112
 go_wp2_with fail
 refine(CL.out).mono ?_
 rintro e w1 ⟨rfl,gg⟩
 have z1:=z0.grew gg
 have k1:=k0.grew gg
 have g1:=ze g0 gg
 have c3:=k1.c3
 have c4:=k1.c4
 clear CL z0 g0 gg k0
 go_wp2_with fail
 go_quiet (fail)
 have z2:=z1.grew (yr (zc w1) nq)
 have k2:=k1.grew (yr (zc w1) nq)
 have g2:=ze g1 (yr (zc w1) nq)
 clear c3 c4 k1 z1 g1
 generalize w1.drewN nq=w2 at *
 have HZ2:=hQ9 z2.lt
 have hrn:decide (rs≤nx)=false:=decide_eq_false (by omega)
 go_wp2_with fail
 try rw [hrn]
 clear hrn hge
 refine zy 13 (fun i=>match i with
  | 0=>fun v _=>v=.pointer (some ⟨b,0,none⟩)
  | 1=>fun v _=>v=.pointer (some ⟨b,0,none⟩)
  | 2=>fun v _=>v=.pointer (some ⟨b,2,none⟩)
  | 3=>fun v _=>v=.slice (some ⟨p,0,none⟩) l.length l.length
  | 4=>fun v _=>v=.pointer (some ⟨b,0,none⟩)
  | 5=>fun v _=>v=.pointer (some ⟨b,0,none⟩)
  | 6=>fun v _=>v=.pointer (some ⟨b,3,none⟩)
  | 7=>fun v _=>v=.int .i64 (nx:Int)
  | 8=>fun v w=>PT w w2.heap.size (pathN l nx) 0 v
  | 9=>fun v w=>PT w w2.heap.size (pathN l nx) 0 v
  | 10=>fun v w=>PV w w2.heap.size (pathN l nx) v
  | 11=>fun v _=>v=.int .i64 0
  | 12=>fun v w=>PV w w2.heap.size (pathN l nx) v
  | _=>fun _ _=>True) (by kernel_rfl) (by kernel_rfl) ?_ ?_ ?_
 ·intro i v x y h hg
  match i,h with
  | 0,h | 1,h | 2,h | 3,h | 4,h | 5,h | 6,h | 7,h | 11,h=>exact h
  | 8,h=>exact PT.gr h hg
  | 9,h=>exact PT.gr h hg
  | 10,h=>exact PV.gr h hg
  | 12,h=>exact PV.gr h hg
  | m+13,_=>trivial
 ·simp only [actOf,tk1,tk0,dr1,dr0,Act.put,si1,st1,st0,Nat.reduceAdd]
  refine⟨?_,?_,?_,?_,?_,?_,?_,?_,?_,?_,?_,?_,?_,trivial⟩
  ·intro vs y hg hd
   dsimp only
   go_wp2_with fail
   exact⟨rfl,_,rfl,zc _,rfl⟩
  ·intro vs y hg hd
   obtain⟨h0,_⟩:=hd
   replace h0:=h0 rfl
   dsimp only
   rw [show vs 0=_ from h0]
   go_wp2_with fail
   exact⟨rfl,_,rfl,zc _,rfl⟩
  ·intro vs y hg hd
   obtain⟨h1,_⟩:=hd
   replace h1:=h1 rfl
   dsimp only
   rw [show vs 1=_ from h1]
   go_wp2_with fail
   exact⟨rfl,_,rfl,zc _,rfl⟩
  ·intro vs y hg hd
   obtain⟨h2,_⟩:=hd
   replace h2:=h2 rfl
   dsimp only
   rw [show vs 2=_ from h2]
   have hc:=(k2.grew hg).c2
   go_wp2_with fail
   exact⟨rfl,_,rfl,zc _,rfl⟩
  ·intro vs y hg hd
   dsimp only
   go_wp2_with fail
   exact⟨rfl,_,rfl,zc _,rfl⟩
  ·intro vs y hg hd
   obtain⟨h4,_⟩:=hd
   replace h4:=h4 rfl
   dsimp only
   rw [show vs 4=_ from h4]
   go_wp2_with fail
   exact⟨rfl,_,rfl,zc _,rfl⟩
  ·intro vs y hg hd
   obtain⟨h5,_⟩:=hd
   replace h5:=h5 rfl
   dsimp only
   rw [show vs 5=_ from h5]
   go_wp2_with fail
   exact⟨rfl,_,rfl,zc _,rfl⟩
  ·intro vs y hg hd
   obtain⟨h6,_⟩:=hd
   replace h6:=h6 rfl
   dsimp only
   rw [show vs 6=_ from h6]
   have hc:=(k2.grew hg).c3
   go_wp2_with fail
   exact⟨rfl,_,rfl,zc _,rfl⟩
  ·intro vs y hg hd
   obtain⟨h3,h7,_⟩:=hd
   replace h3:=h3 rfl
   replace h7:=h7 rfl
   dsimp only
   rw [show vs 3=_ from h3,show vs 7=_ from h7]
   have kk:=k2.grew hg
   go_wp2_with(go_at_call 162;refine(zkh (some ⟨p,0,none⟩) l.length y.heap.size l nx hq (by omega) HK.out HB.out y kk.rd (Nat.le_refl _)).mono ?_;rintro e z ⟨A,c,rfl,hr9,hb9,gz⟩)
   exact⟨rfl,_,rfl,gz,⟨A,c,rfl,hr9,fun ad h=>Nat.le_trans hg.size (hb9 ad h)⟩⟩
  ·intro vs y hg hd
   obtain⟨h8,_⟩:=hd
   replace h8:=h8 rfl
   dsimp only
   obtain⟨A,c,hv,hr9,hb9⟩:=PT.out h8
   rw [hv]
   go_wp2_with fail
   exact⟨rfl,_,rfl,zc _,⟨A,c,rfl,hr9,hb9⟩⟩
  ·intro vs y hg hd
   obtain⟨h9,_⟩:=hd
   replace h9:=h9 rfl
   dsimp only
   obtain⟨A,c,hv,hr9,hb9⟩:=PT.out h9
   rw [hv]
   go_wp2_with fail
   exact⟨rfl,_,rfl,zc _,⟨A,c,rfl,hr9,hb9⟩⟩
  ·intro vs y hg hd
   obtain⟨h9,_⟩:=hd
   replace h9:=h9 rfl
   dsimp only
   obtain⟨A,c,hv,hr9,hb9⟩:=PT.out h9
   rw [hv]
   go_wp2_with fail
   exact⟨rfl,_,rfl,zc _,rfl⟩
  ·intro vs y hg hd
   obtain⟨h10,_⟩:=hd
   replace h10:=h10 rfl
   dsimp only
   obtain⟨A,c,hv,hr9,hb9⟩:=PV.out h10
   rw [hv]
   go_wp2_with fail
   exact⟨rfl,_,rfl,zc _,⟨A,c,rfl,hr9,hb9⟩⟩
 ·intro vs y hg hJ
  have j0:vs 0=.pointer (some ⟨b,0,none⟩):=hJ 0 (by decide)
  have j1:vs 1=.pointer (some ⟨b,0,none⟩):=hJ 1 (by decide)
  have j2:vs 2=.pointer (some ⟨b,2,none⟩):=hJ 2 (by decide)
  have j3:vs 3=.slice (some ⟨p,0,none⟩) l.length l.length:=hJ 3 (by decide)
  have j4:vs 4=.pointer (some ⟨b,0,none⟩):=hJ 4 (by decide)
  have j5:vs 5=.pointer (some ⟨b,0,none⟩):=hJ 5 (by decide)
  have j6:vs 6=.pointer (some ⟨b,3,none⟩):=hJ 6 (by decide)
  have j7:vs 7=.int .i64 (nx:Int):=hJ 7 (by decide)
  have j11:vs 11=.int .i64 0:=hJ 11 (by decide)
  simp only [actOf,tk1,tk0,dr1,dr0,Act.put,si1,st1,st0,Nat.reduceAdd]
  obtain⟨A,c,j12,hr9,hb9⟩:=PV.out (show PV y w2.heap.size (pathN l nx) (vs 12) from hJ 12 (by decide))
  rw [j12,j11]
  clear hJ j0 j1 j2 j3 j4 j5 j6 j7 j12 j11
  have k3:=k2.grew hg
  have z3:=z2.grew hg
  have g3:=ze g2 hg
  have HQQ:=hQ9 hg.size
  clear k2 z2 g2 hg
  have OQ:=hQ9 hb9
  clear hb9
  go_wp2_with fail
  generalize y=w3 at *
  refine zy 22 (fun i=>match i with
   | 0=>fun v _=>v=.pointer (some ⟨b,0,none⟩)
   | 1=>fun v _=>v=.pointer (some ⟨b,0,none⟩)
   | 2=>fun v _=>v=.pointer (some ⟨b,0,none⟩)
   | 3=>fun v _=>v=.int .i64 who
   | 4=>fun v _=>v=.pointer (some ⟨b,0,none⟩)
   | 5=>fun v _=>v=.pointer (some ⟨b,0,none⟩)
   | 6=>fun v _=>v=.pointer (some ⟨b,3,none⟩)
   | 7=>fun v _=>v=.int .i64 (nx:Int)
   | 8=>fun v _=>v=.pointer (some ⟨b,0,none⟩)
   | 9=>fun v _=>v=.pointer (some ⟨b,0,none⟩)
   | 10=>fun v _=>v=.pointer (some ⟨b,1,none⟩)
   | 11=>fun v _=>v=.int .u64 sd
   | 12=>fun v _=>v=.pointer (some ⟨b,0,none⟩)
   | 13=>fun v _=>v=.pointer (some ⟨b,0,none⟩)
   | 14=>fun v _=>v=.pointer (some ⟨b,3,none⟩)
   | 15=>fun v _=>v=.int .i64 (nx:Int)
   | 16=>fun v _=>v=.agg (arrU (secN sd nx))
   | 17=>fun v _=>v=.int .u64 d
   | 18=>fun v _=>v=.agg (arrU (signF (secN sd nx) d.toNat))
   | 19=>fun v _=>v=.slice A (pathN l nx).length c
   | 20=>fun v _=>v=.agg (sgC who nx (signF (secN sd nx) d.toNat) (.slice A (pathN l nx).length c))
   | 21=>fun v w=>NewAg w w3.heap.size (zS21).toList v
   | _=>fun _ _=>True) (by kernel_rfl) (by kernel_rfl) ?_ ?_ ?_
  ·intro i v x y h hg
   match i,h with
   | 0,h | 1,h | 2,h | 3,h | 4,h | 5,h | 6,h | 7,h | 8,h | 9,h | 10,h | 11,h | 12,h | 13,h | 14,h | 15,h | 16,h | 17,h | 18,h | 19,h | 20,h=>exact h
   | 21,h=>exact NewAg.gr h hg
   | m+22,_=>trivial
  ·simp only [actOf,tk1,tk0,dr1,dr0,Act.put,si1,st1,st0,Nat.reduceAdd]
   refine⟨?_,?_,?_,?_,?_,?_,?_,?_,?_,?_,?_,?_,?_,?_,?_,?_,?_,?_,?_,?_,?_,?_,trivial⟩
   ·intro vs y hg hd
    dsimp only
    go_wp2_with fail
    exact⟨rfl,_,rfl,zc _,rfl⟩
   ·intro vs y hg hd
    obtain⟨h0,_⟩:=hd
    replace h0:=h0 rfl
    dsimp only
    rw [show vs 0=_ from h0]
    go_wp2_with fail
    exact⟨rfl,_,rfl,zc _,rfl⟩
   ·intro vs y hg hd
    obtain⟨h1,_⟩:=hd
    replace h1:=h1 rfl
    dsimp only
    rw [show vs 1=_ from h1]
    go_wp2_with fail
    exact⟨rfl,_,rfl,zc _,rfl⟩
   ·intro vs y hg hd
    obtain⟨h2,_⟩:=hd
    replace h2:=h2 rfl
    dsimp only
    rw [show vs 2=_ from h2]
    have hc:=(k3.grew hg).c0
    go_wp2_with fail
    exact⟨rfl,_,rfl,zc _,rfl⟩
   ·intro vs y hg hd
    dsimp only
    go_wp2_with fail
    exact⟨rfl,_,rfl,zc _,rfl⟩
   ·intro vs y hg hd
    obtain⟨h4,_⟩:=hd
    replace h4:=h4 rfl
    dsimp only
    rw [show vs 4=_ from h4]
    go_wp2_with fail
    exact⟨rfl,_,rfl,zc _,rfl⟩
   ·intro vs y hg hd
    obtain⟨h5,_⟩:=hd
    replace h5:=h5 rfl
    dsimp only
    rw [show vs 5=_ from h5]
    go_wp2_with fail
    exact⟨rfl,_,rfl,zc _,rfl⟩
   ·intro vs y hg hd
    obtain⟨h6,_⟩:=hd
    replace h6:=h6 rfl
    dsimp only
    rw [show vs 6=_ from h6]
    have hc:=(k3.grew hg).c3
    go_wp2_with fail
    exact⟨rfl,_,rfl,zc _,rfl⟩
   ·intro vs y hg hd
    dsimp only
    go_wp2_with fail
    exact⟨rfl,_,rfl,zc _,rfl⟩
   ·intro vs y hg hd
    obtain⟨h8,_⟩:=hd
    replace h8:=h8 rfl
    dsimp only
    rw [show vs 8=_ from h8]
    go_wp2_with fail
    exact⟨rfl,_,rfl,zc _,rfl⟩
   ·intro vs y hg hd
    obtain⟨h9,_⟩:=hd
    replace h9:=h9 rfl
    dsimp only
    rw [show vs 9=_ from h9]
    go_wp2_with fail
    exact⟨rfl,_,rfl,zc _,rfl⟩
   ·intro vs y hg hd
    obtain⟨h10,_⟩:=hd
    replace h10:=h10 rfl
    dsimp only
    rw [show vs 10=_ from h10]
    have hc:=(k3.grew hg).c1
    go_wp2_with fail
    exact⟨rfl,_,rfl,zc _,rfl⟩
   ·intro vs y hg hd
    dsimp only
    go_wp2_with fail
    exact⟨rfl,_,rfl,zc _,rfl⟩
   ·intro vs y hg hd
    obtain⟨h12,_⟩:=hd
    replace h12:=h12 rfl
    dsimp only
    rw [show vs 12=_ from h12]
    go_wp2_with fail
    exact⟨rfl,_,rfl,zc _,rfl⟩
   ·intro vs y hg hd
    obtain⟨h13,_⟩:=hd
    replace h13:=h13 rfl
    dsimp only
    rw [show vs 13=_ from h13]
    go_wp2_with fail
    exact⟨rfl,_,rfl,zc _,rfl⟩
   ·intro vs y hg hd
    obtain⟨h14,_⟩:=hd
    replace h14:=h14 rfl
    dsimp only
    rw [show vs 14=_ from h14]
    have hc:=(k3.grew hg).c3
    go_wp2_with fail
    exact⟨rfl,_,rfl,zc _,rfl⟩
   ·intro vs y hg hd
    obtain⟨h11,h15,_⟩:=hd
    replace h11:=h11 rfl
    replace h15:=h15 rfl
    dsimp only
    rw [show vs 11=_ from h11,show vs 15=_ from h15]
    go_wp2_with(go_at_call 159;refine(CS.out y).mono ?_;rintro e z ⟨rfl,gz⟩)
    exact⟨rfl,_,rfl,gz,rfl⟩
   ·intro vs y hg hd
    dsimp only
    go_wp2_with fail
    exact⟨rfl,_,rfl,zc _,rfl⟩
   ·intro vs y hg hd
    obtain⟨h16,h17,_⟩:=hd
    replace h16:=h16 rfl
    replace h17:=h17 rfl
    dsimp only
    rw [show vs 16=_ from h16,show vs 17=_ from h17]
    go_wp2_with(go_at_call 163;refine(CG.out y).mono ?_;rintro e z ⟨rfl,gz⟩)
    exact⟨rfl,_,rfl,gz,rfl⟩
   ·intro vs y hg hd
    dsimp only
    go_wp2_with fail
    exact⟨rfl,_,rfl,zc _,rfl⟩
   ·intro vs y hg hd
    obtain⟨h3,h7,h18,h19,_⟩:=hd
    replace h3:=h3 rfl
    replace h7:=h7 rfl
    replace h18:=h18 rfl
    replace h19:=h19 rfl
    dsimp only
    rw [show vs 3=_ from h3,show vs 7=_ from h7,show vs 18=_ from h18,show vs 19=_ from h19]
    have hbu:=zib who nx (signF (secN sd nx) d.toNat) A (pathN l nx).length c
    generalize arrU (signF (secN sd nx) d.toNat)=aa at *
    refine zC rfl 67 #[(0,.tmp 42),(1,.tmp 46),(2,.tmp 57),(3,.tmp 58)] rfl _ (by simpa [Act.eval]using hbu) ?_
    go_wp2_with fail
    exact⟨rfl,_,rfl,zc _,rfl⟩
   ·intro vs y hg hd
    dsimp only
    have zz:=xW y
    go_wp2_with fail
    exact⟨rfl,_,rfl,zg (zc _) _,⟨_,rfl,zz,hg.size⟩⟩
  ·intro vs y hg hJ
   have j0:vs 0=.pointer (some ⟨b,0,none⟩):=hJ 0 (by decide)
   have j1:vs 1=.pointer (some ⟨b,0,none⟩):=hJ 1 (by decide)
   have j2:vs 2=.pointer (some ⟨b,0,none⟩):=hJ 2 (by decide)
   have j3:vs 3=.int .i64 who:=hJ 3 (by decide)
   have j4:vs 4=.pointer (some ⟨b,0,none⟩):=hJ 4 (by decide)
   have j5:vs 5=.pointer (some ⟨b,0,none⟩):=hJ 5 (by decide)
   have j6:vs 6=.pointer (some ⟨b,3,none⟩):=hJ 6 (by decide)
   have j7:vs 7=.int .i64 (nx:Int):=hJ 7 (by decide)
   have j8:vs 8=.pointer (some ⟨b,0,none⟩):=hJ 8 (by decide)
   have j9:vs 9=.pointer (some ⟨b,0,none⟩):=hJ 9 (by decide)
   have j10:vs 10=.pointer (some ⟨b,1,none⟩):=hJ 10 (by decide)
   have j11:vs 11=.int .u64 sd:=hJ 11 (by decide)
   have j12:vs 12=.pointer (some ⟨b,0,none⟩):=hJ 12 (by decide)
   have j13:vs 13=.pointer (some ⟨b,0,none⟩):=hJ 13 (by decide)
   have j14:vs 14=.pointer (some ⟨b,3,none⟩):=hJ 14 (by decide)
   have j15:vs 15=.int .i64 (nx:Int):=hJ 15 (by decide)
   have j16:vs 16=.agg (arrU (secN sd nx)):=hJ 16 (by decide)
   have j17:vs 17=.int .u64 d:=hJ 17 (by decide)
   have j18:vs 18=.agg (arrU (signF (secN sd nx) d.toNat)):=hJ 18 (by decide)
   have j19:vs 19=.slice A (pathN l nx).length c:=hJ 19 (by decide)
   have j20:vs 20=.agg (sgC who nx (signF (secN sd nx) d.toNat) (.slice A (pathN l nx).length c)):=hJ 20 (by decide)
   simp only [actOf,tk1,tk0,dr1,dr0,Act.put,si1,st1,st0,Nat.reduceAdd]
   obtain⟨q,j21,zq,hq3⟩:=NewAg.out (show NewAg y w3.heap.size (#[.int .i64 0,.int .i64 0,.int .u64 0,.int .u64 0,.int .u64 0,.int .u64 0,.int .u64 0,.int .u64 0,.int .u64 0,.int .u64 0,.int .u64 0,.int .u64 0,.int .u64 0,.int .u64 0,.int .u64 0,.int .u64 0,.int .u64 0,.int .u64 0,.int .u64 0,.int .u64 0,.slice none 0 0]).toList (vs 21) from hJ 21 (by decide))
   rw [j21,j20]
   clear hJ j0 j1 j2 j3 j4 j5 j6 j7 j8 j9 j10 j11 j12 j13 j14 j15 j16 j17 j18 j19 j20 j21
   have k4:=k3.grew hg
   have z4:=z3.grew hg
   have r4:=hr9.gr hg
   have hw3:=z3.lt
   have hpw:p<w.heap.size:=HW.out.pub.lt
   have hqy:q<y.heap.size:=zq.lt
   have gy:=ze g3 hg
   have B9:∀ ad,A=some ad→w.heap.size<ad.block:=fun ad h=>by have:=OQ.out ad h;have:=HZ2.out;omega
   have B9:=hQ9 B9
   refine wpList_store_mid rfl 67 (.tmp 8) (.tmp 59) rfl q 0 (sgC who nx (signF (secN sd nx) d.toNat) (.slice A (pathN l nx).length c)) rfl rfl (zq.thereN 21 rfl) zL (yL _ _ _ _ _ _) ?_
   have zq5:=Ag.set (vs:=(sgC who nx (signF (secN sd nx) d.toNat) (.slice A (pathN l nx).length c)).toList) zq rfl
   have K5:=zn (sgC who nx (signF (secN sd nx) d.toNat) (.slice A (pathN l nx).length c)).toList q 0 y
   have k5:=k4.kp K5 (by show ¬b=q;omega) (by show ¬p=q;omega)
   have z5:=z4.other (b':=q) (o:=0) (vs:=(sgC who nx (signF (secN sd nx) d.toNat) (.slice A (pathN l nx).length c)).toList) (by omega)
   have r5:=(hr9.below hg).kp K5 hg.size (fun ad h1 h2 h3=>by have h3:ad.block=q:=h3;omega)
   have t5:=tn_kp (x9 (g:=b) gy) K5 (fun i hi=>.inr (by have hi:i=q:=hi;omega))
   have s5:=Nat.le_trans hg.size K5.size
   clear zq K5 k4 z4 r4 hqy
   generalize y.setCells q 0 (sgC who nx (signF (secN sd nx) d.toNat) (.slice A (pathN l nx).length c)).toList=w5 at *
   have e1:IntKind.i64.wrap ((nx:Int)+1)=((nx+1:Nat):Int):=by rw [IntWalk.i64_in _ (by omega)];omega
   have cc3:=k5.c3
   have cf3:=k5.key.frozen 3
   have K6:=yP (S:=fun j=>j=b) (zJ _ w5) (p:=⟨b,3,none⟩) (.inl rfl) (.int .i64 ((nx+1:Nat):Int))
   have k6:=k5.set3 (nx+1)
   have zq6:=zq5.kp K6 (by show ¬q=b;omega)
   have z6:=z5.kp K6 (by show ¬w.heap.size=b;omega)
   have r6:=r5.kp K6 s5 (fun ad h1 h2 h3=>by have h3:ad.block=b:=h3;have:=B9.out ad h1;omega)
   have t6:=kN (p:=⟨b,3,none⟩) t5 (.inl rfl) (.int .i64 ((nx+1:Nat):Int))
   have s6:=Nat.le_trans s5 K6.size
   clear K6 k5 z5 r5 t5 zq5
   go_wp2_with(first
    | (refine wpList_load_mid rfl 67 (.tmp 8) rfl q 0 rfl (sgC who nx (signF (secN sd nx) d.toNat) (.slice A (pathN l nx).length c)).toList _ zq6.cell hus rfl zL ?_)
    | (refine wpList_store_mid rfl 67 (.tmp 4) (.tmp 67) rfl w.heap.size 0 (sgC who nx (signF (secN sd nx) d.toNat) (.slice A (pathN l nx).length c)) rfl rfl (z6.thereN 21 rfl) zL (yL _ _ _ _ _ _) ?_;have z7:=Ag.set (vs:=(sgC who nx (signF (secN sd nx) d.toNat) (.slice A (pathN l nx).length c)).toList) z6 rfl;have K7:=zn (sgC who nx (signF (secN sd nx) d.toNat) (.slice A (pathN l nx).length c)).toList w.heap.size 0 (w5.setCell ⟨b,3,none⟩ (.int .i64 ((nx+1:Nat):Int)))))
   have k7:=k6.kp K7 (by show ¬b=w.heap.size;omega) (by show ¬p=w.heap.size;omega)
   have r7:=r6.kp K7 s6 (fun ad h1 h2 h3=>by have h3:ad.block=w.heap.size:=h3;have:=B9.out ad h1;omega)
   have t7:=tn_kp t6 K7 (fun i hi=>.inr (by have hi:i=w.heap.size:=hi;omega))
   have s7:=Nat.le_trans s6 K7.size
   exact bodyPost_ret (zT Tryz.results112 _ _ w.heap.size _ _ _ rfl rfl z7 hus rfl zL) rfl ⟨⟨A,c,rfl,r7.more s7,fun ad h=>by have:=B9.out ad h;omega⟩,t7,k7⟩
theorem Ag.gr {w:World} {b:Nat} {cs:List Value} (h:Ag w b cs) (y:Gr w):Ag y.val b cs:=h.grew y.ok
theorem zo {P:Program} {w0:World} {a:Act} {o:Oper} {K:Act→Prop} (ty:TypeId) (x:Operand) (h:o.op=.load ty x) (b m:Nat) (hx:a.eval x=.pointer (some ⟨b,m,none⟩)) (cs:List Value) (d:TypeDesc)
 (hg:∀ y:Gr w0,y.val.rangeAt b m cs) (hu:P.underlying ty=some d) (hd:d.isRow=true) (hi:(P.info? ty).map (·.size)=some cs.length)
 (hk:K (a.put o.dst (.agg cs.toArray))):o.quiet P a (fun w'=>∃ x:Gr w0,w'=x.val) K:=by
 refine⟨_,fun w hw=>?_,hk⟩
 obtain⟨y,rfl⟩:=hw
 unfold Oper.quietAt execOp
 simp only [h,hx,Instr.loadAt,Instr.sureAddr,Sem.run_bind,Sem.run_pure,Result.andThen_ok,run_loadVar_mid y.val b m ty cs d (hg y) hu hd hi]
 exact⟨rfl,rfl⟩
theorem ki {w:World} {b:Nat} {who leaf:Int} {s:Nat→Nat} {pv:Value} (h:Ag w b (sgC who leaf s pv).toList):w.rangeAt b 2 (arrU s).toList:=by
 intro j v hj
 have hj':j<18:=by
  have:=(List.getElem?_eq_some_iff.1 hj).1
  simpa [arrU]using this
 have h2:=h.cell (2+j)
 rw [Nat.zero_add]at h2
 refine h2 v ?_
 rw [←hj]
 match j,hj' with
 | 0,_ | 1,_ | 2,_ | 3,_ | 4,_ | 5,_ | 6,_ | 7,_ | 8,_ | 9,_ | 10,_ | 11,_ | 12,_ | 13,_ | 14,_ | 15,_ | 16,_ | 17,_=>rfl
noncomputable def vrS (root:Nat) (leaf:Int) (s:Nat→Nat) (l:List Nat) (d h:Int):Bool:=decide ((l.length:Int)=h)&&verN root (recN s d.toNat) leaf l
theorem qO (root:Nat) (who leaf:Int) (s:Nat→Nat) (A:Option Addr) (c:Nat) (l:List Nat) (d h:Int) (hl:l.length≤1048576) (hlf:-9223372036854775808≤leaf∧leaf≤9223372036854775807) (hs:∀ k,k<18→s k<18446744073709551616) (hb:∀ n∈l,n<18446744073709551616) (hd:U64 d) (w:World) (hr:Rd w w.heap.size A (u64L l)) :
 Calls Tryz.prog 151 #[.int .u64 (root:Nat),.agg (sgC who leaf s (.slice A l.length c)),.int .u64 d,.int .i64 h] w fun e w'=>e=.returned (.bool (vrS root leaf s l d h))∧Grew w w':=by
 have zS:=Ag.new w 67 (sgC who leaf s (.slice A l.length c))
 have G0:=zg (zc w) (.cells (sgC who leaf s (.slice A l.length c)) 67)
 have c1:(w.alloc (.cells (sgC who leaf s (.slice A l.length c)) 67)).cell? ⟨w.heap.size,1,none⟩=some (.int .i64 leaf):=by simpa using zS.cell 1 (.int .i64 leaf) rfl
 have c20:(w.alloc (.cells (sgC who leaf s (.slice A l.length c)) 67)).cell? ⟨w.heap.size,20,none⟩=some (.slice A l.length c):=by simpa using zS.cell 20 (.slice A l.length c) rfl
 have hr0:=(hr.below G0).more (B':=w.heap.size+1) (by omega)
 by_cases hlen:(l.length:Int)=h
 ·subst hlen
  have hx:vrS root leaf s l d (l.length:Int)=verN root (recN s d.toNat) leaf l:=by unfold vrS;rw [decide_eq_true rfl];rfl
  rw [hx]
  have e0:((l.length:Int) != (l.length:Int))=false:=by simp
  have CR:=hQ9 (fun W=>zcy s d W hs hd)
  have CV:Hid (∀ W,Grew (w.alloc (.cells (sgC who leaf s (.slice A l.length c)) 67)) W→Calls Tryz.prog 198 #[.int .u64 root,.int .u64 (recN s d.toNat:Nat),.int .i64 leaf,.slice A l.length c] W fun e w'=>e=.returned (.bool (verN root (recN s d.toNat) leaf l))∧W=w') :=
   hQ9 (fun W hW=>zki root (recN s d.toNat) leaf A c (w.heap.size+1) l hl hlf (zdm _ _) hb W (hr0.below (hW.mono (by simp))))
  have hua:=Tryz.underlying65
  have hia:(Tryz.prog.info? 65).map (·.size)=some (arrU s).toList.length:=by rw [show(arrU s).toList.length=18 by simp [arrU]];kernel_rfl
  generalize recN s d.toNat=rc at *
  generalize verN root rc leaf l=vb at *
  clear hx hr hr0 hs hb hlf
  go_enter Tryz.func151,Tryz.ntmps151
  go_wp2_with fail
  generalize w.alloc (.cells (sgC who leaf s (.slice A l.length c)) 67)=w1 at *
  have q1:∀ y:Gr w1,y.val.cell? ⟨w.heap.size,1,none⟩=some (.int .i64 leaf):=fun y=>(y.ok.cell (p:=⟨w.heap.size,1,none⟩) zS.lt).trans c1
  have q20:∀ y:Gr w1,y.val.cell? ⟨w.heap.size,20,none⟩=some (.slice A l.length c):=fun y=>(y.ok.cell (p:=⟨w.heap.size,20,none⟩) zS.lt).trans c20
  have qm:Hid (∀ y:Gr w1,y.val.rangeAt w.heap.size 2 (arrU s).toList):=hQ9 (fun y=>ki (zS.gr y))
  clear c1 c20 zS
  generalize arrU s=ar at *
  refine zh (zc w1) (by kernel_rfl) (by kernel_rfl) ?_
  repeat (first
   | (go_big_quiet_want;refine zo 65 (.tmp 15) rfl w.heap.size 2 rfl ar.toList _ qm.out hua rfl hia ?_;simp only [Act.put,List.setIfInBounds_toArray,List.set_cons_succ,List.set_cons_zero,Array.toArray_toList];go_big_quiet_on)
   | (go_big_quiet_step (first
    | (go_at_call 199;exact callG (CR.out _))
    | (go_at_call 198;exact callS (CV.out _ (Gr.ok _))))))
  refine wpQuiet_nil ?_
  rintro w8 ⟨⟨w8',g8⟩,rfl⟩
  go_wp2_with fail
  go_ret
  exact⟨rfl,ze G0 g8⟩
 ·have hx:vrS root leaf s l d h=false:=by unfold vrS;rw [decide_eq_false hlen];rfl
  rw [hx]
  have e0:((l.length:Int) != h)=true:=by simpa using hlen
  clear hx hr hr0 hs hb hlf
  go_enter Tryz.func151,Tryz.ntmps151
  go_wp2_with fail
  go_ret
  exact⟨rfl,G0⟩
theorem zw {P:Program} {ops:Array Oper} {rest:List Oper} {o:Oper} {a:Act} {w:World} {Q:Exit→Act→World→Prop} (hw:Region.wanted o (yielded ops a.tmps)=true) (ty:TypeId) (x:Operand) (ho:o.op=.load ty x)
 (b m:Nat) (hx:a.eval x=.pointer (some ⟨b,m,none⟩)) (cs:List Value) (d:TypeDesc) (hc:w.rangeAt b m cs)
 (hu:P.underlying ty=some d) (hd:d.isRow=true) (hi:(P.info? ty).map (·.size)=some cs.length)
 (h:wpList P ops Q rest (a.put o.dst (.agg cs.toArray)) w):wpList P ops Q (o::rest) a w :=
 BigFrame.wpList_want hw fun _ hK=>wp_load_mid ty x ho b m hx cs d hc hu hd hi (hK _ _ h)
theorem zev (root:Nat) (who leaf:Int) (s:Nat→Nat) (A:Option Addr) (c:Nat) (l:List Nat) (d h:Int) (hl:l.length≤1048576) (hlf:-9223372036854775808≤leaf∧leaf≤9223372036854775807) (hs:∀ k,k<18→s k<18446744073709551616) (hb:∀ n∈l,n<18446744073709551616) (hd:U64 d) (w:World) (hr:Rd w w.heap.size A (u64L l)) :
 Calls Tryz.prog 153 #[.int .u64 (root:Nat),.agg (sgC who leaf s (.slice A l.length c)),.int .u64 d,.int .i64 h] w fun e w'=>e=.returned (.bool (vrS root leaf s l d h))∧Grew w w':=by
 have zS:=Ag.new w 73 (sgC who leaf s (.slice A l.length c))
 have G0:=zg (zc w) (.cells (sgC who leaf s (.slice A l.length c)) 73)
 have c1:(w.alloc (.cells (sgC who leaf s (.slice A l.length c)) 73)).cell? ⟨w.heap.size,1,none⟩=some (.int .i64 leaf):=by simpa using zS.cell 1 (.int .i64 leaf) rfl
 have c20:(w.alloc (.cells (sgC who leaf s (.slice A l.length c)) 73)).cell? ⟨w.heap.size,20,none⟩=some (.slice A l.length c):=by simpa using zS.cell 20 (.slice A l.length c) rfl
 have hr0:=(hr.below G0).more (B':=w.heap.size+1) (by omega)
 by_cases hlen:(l.length:Int)=h
 ·subst hlen
  have hx:vrS root leaf s l d (l.length:Int)=verN root (recN s d.toNat) leaf l:=by unfold vrS;rw [decide_eq_true rfl];rfl
  rw [hx]
  have e0:((l.length:Int) != (l.length:Int))=false:=by simp
  have CR:=hQ9 (fun W=>zbx s d W hs hd)
  have CV:Hid (∀ W,Grew (w.alloc (.cells (sgC who leaf s (.slice A l.length c)) 73)) W→Calls Tryz.prog 200 #[.int .u64 root,.int .u64 (recN s d.toNat:Nat),.int .i64 leaf,.slice A l.length c] W fun e w'=>e=.returned (.bool (verN root (recN s d.toNat) leaf l))∧W=w') :=
   hQ9 (fun W hW=>zes root (recN s d.toNat) leaf A c (w.heap.size+1) l hl hlf (zdm _ _) hb W (hr0.below (hW.mono (by simp))))
  have hua:=Tryz.underlying71
  have hia:(Tryz.prog.info? 71).map (·.size)=some (arrU s).toList.length:=by rw [show(arrU s).toList.length=18 by simp [arrU]];kernel_rfl
  generalize recN s d.toNat=rc at *
  generalize verN root rc leaf l=vb at *
  clear hx hr hr0 hs hb hlf
  go_enter Tryz.func153,Tryz.ntmps153
  go_wp2_with fail
  generalize w.alloc (.cells (sgC who leaf s (.slice A l.length c)) 73)=w1 at *
  have q1:∀ y:Gr w1,y.val.cell? ⟨w.heap.size,1,none⟩=some (.int .i64 leaf):=fun y=>(y.ok.cell (p:=⟨w.heap.size,1,none⟩) zS.lt).trans c1
  have q20:∀ y:Gr w1,y.val.cell? ⟨w.heap.size,20,none⟩=some (.slice A l.length c):=fun y=>(y.ok.cell (p:=⟨w.heap.size,20,none⟩) zS.lt).trans c20
  have qm:Hid (∀ y:Gr w1,y.val.rangeAt w.heap.size 2 (arrU s).toList):=hQ9 (fun y=>ki (zS.gr y))
  clear c1 c20 zS
  generalize arrU s=ar at *
  refine zh (zc w1) (by kernel_rfl) (by kernel_rfl) ?_
  repeat (first
   | (go_big_quiet_want;refine zo 71 (.tmp 16) rfl w.heap.size 2 rfl ar.toList _ qm.out hua rfl hia ?_;simp only [Act.put,List.setIfInBounds_toArray,List.set_cons_succ,List.set_cons_zero,Array.toArray_toList];go_big_quiet_on)
   | (go_big_quiet_step (first
    | (go_at_call 201;exact callG (CR.out _))
    | (go_at_call 200;exact callS (CV.out _ (Gr.ok _))))))
  refine wpQuiet_nil ?_
  rintro w8 ⟨⟨w8',g8⟩,rfl⟩
  go_wp2_with fail
  go_ret
  exact⟨rfl,ze G0 g8⟩
 ·have hx:vrS root leaf s l d h=false:=by unfold vrS;rw [decide_eq_false hlen];rfl
  rw [hx]
  have e0:((l.length:Int)==h)=false:=by simpa using hlen
  clear hx hr hr0 hs hb hlf
  go_enter Tryz.func153,Tryz.ntmps153
  go_wp2_with fail
  generalize w.alloc (.cells (sgC who leaf s (.slice A l.length c)) 73)=w1 at *
  have q20:∀ y:Gr w1,y.val.cell? ⟨w.heap.size,20,none⟩=some (.slice A l.length c):=fun y=>(y.ok.cell (p:=⟨w.heap.size,20,none⟩) zS.lt).trans c20
  clear c1 c20 zS
  refine zh (zc w1) (by kernel_rfl) (by kernel_rfl) ?_
  repeat (go_big_quiet_step (fail))
  refine wpQuiet_nil ?_
  rintro w8 ⟨⟨w8',g8⟩,rfl⟩
  go_wp2_with fail
  go_ret
  exact⟨rfl,ze G0 g8⟩
structure AgS (w:World) (B:Nat) (who leaf:Int) (s:Nat→Nat) (l:List Nat) (v:Value):Prop where
 out:∃ A c,v=.agg (sgC who leaf s (.slice A l.length c))∧Rd w w.heap.size A (u64L l)∧(∀ ad,A=some ad→B≤ad.block)
theorem AgS.gr {w w':World} {B:Nat} {who leaf:Int} {s:Nat→Nat} {l:List Nat} {v:Value} (h:AgS w B who leaf s l v) (g:Grew w w'):AgS w' B who leaf s l v:=by
 obtain⟨A,c,h1,h2,h3⟩:=h.out
 exact⟨A,c,h1,h2.gr g,h3⟩
theorem zM {P:Program} {fn:Func} {p:Tmp} {ty:TypeId} (h:fn.results=#[.cell p ty]) (tmps:Array Value) (w:World) (b:Nat) (cs:List Value) (d:TypeDesc)
 (hp:tmps.getD p undef=.pointer (some ⟨b,0,none⟩)) (hz:Ag w b cs) (hu:P.underlying ty=some d) (hd:d.isRow=true) (hi:(P.info? ty).map (·.size)=some cs.length) :
 (results fn tmps).run P w=.ok (.agg cs.toArray) w:=by
 have hp':tmps[p]?.getD undef=.pointer (some ⟨b,0,none⟩):=by simpa using hp
 simp [results,h,hp',asAddr,run_loadVar_mid w b 0 ty cs d hz.cell hu hd hi]
theorem zic (who leaf:Int) (s:Nat→Nat) (A:Option Addr) (n c:Nat):Tryz.prog.built 73 [(0,.int .i64 who),(1,.int .i64 leaf),(2,.agg (arrU s)),(3,.slice A n c)]=some (sgC who leaf s (.slice A n c)):=by kernel_rfl
theorem y4:(Tryz.prog.info? 73).map (·.size)=some 21:=by kernel_rfl
theorem yj {w:World} {a:Addr} {v:Value} (h:w.cell? a=some v):a.block<w.heap.size:=by
 rcases Nat.lt_or_ge a.block w.heap.size with h' | h'
 ·exact h'
 ·simp [World.cell?,Array.getElem?_eq_none h']at h
theorem zid (who leaf:Int) (s:Nat→Nat) (A A':Option Addr) (c c':Nat) (l:List Nat) (hl:l.length≤1048576) (w:World) (hr:Rd w w.heap.size A (u64L l)) (hr':Rd w w.heap.size A' (u64L l)) :
 Calls Tryz.prog 156 #[.agg (sgC who leaf s (.slice A l.length c)),.agg (sgC who leaf s (.slice A' l.length c'))] w fun e w'=>e=.returned (.bool true)∧Grew w w':=by
 have z1:=(Ag.new w 73 (sgC who leaf s (.slice A l.length c))).grew (zg (zc _) (.cells (sgC who leaf s (.slice A' l.length c')) 73))
 have z2:=Ag.new (w.alloc (.cells (sgC who leaf s (.slice A l.length c)) 73)) 73 (sgC who leaf s (.slice A' l.length c'))
 rw [zl]at z2
 have G0:=zg (zg (zc w) (.cells (sgC who leaf s (.slice A l.length c)) 73)) (.cells (sgC who leaf s (.slice A' l.length c')) 73)
 have r1:=hr.gr G0
 have r2:=hr'.gr G0
 have hag:∀ w,(isAgg 25).run Tryz.prog w=.ok false w:=fun w=>by kernel_rfl
 obtain⟨i0,hi0,hiz0,hiz1,hiz2⟩:=info_parts infoU
 have Q1:∀ W,(Op.equalIn 10000 71 (.agg (arrU s)) (.agg (arrU s))).run Tryz.prog W=.ok true W:=fun W=>qG W 9998 71 25 i0 _ s Tryz.underlying71 Tryz.underlying25 hi0 hiz1 hag (yC s)
 clear hag hi0 hiz0 hiz1 hiz2 hr hr'
 have hua:=Tryz.underlying71
 have hia:(Tryz.prog.info? 71).map (·.size)=some (arrU s).toList.length:=by rw [show(arrU s).toList.length=18 by simp [arrU]];kernel_rfl
 have m1:=hQ9 (ki z1)
 have m2:=hQ9 (ki z2)
 have W2:World:=(w.alloc (.cells (sgC who leaf s (.slice A l.length c)) 73)).alloc (.cells (sgC who leaf s (.slice A' l.length c')) 73)
 have b0:∀ j u,(sgC who leaf s (.slice A l.length c)).toList[j]?=some u→((w.alloc (.cells (sgC who leaf s (.slice A l.length c)) 73)).alloc (.cells (sgC who leaf s (.slice A' l.length c')) 73)).cell? ⟨w.heap.size,j,none⟩=some u:=fun j u h=>by simpa using z1.cell j u h
 have b1:∀ j u,(sgC who leaf s (.slice A' l.length c')).toList[j]?=some u→((w.alloc (.cells (sgC who leaf s (.slice A l.length c)) 73)).alloc (.cells (sgC who leaf s (.slice A' l.length c')) 73)).cell? ⟨w.heap.size+1,j,none⟩=some u:=fun j u h=>by simpa using z2.cell j u h
 have x0:=b0 0 (.int .i64 who) rfl
 have x1:=b0 1 (.int .i64 leaf) rfl
 have x20:=b0 20 (.slice A l.length c) rfl
 have y0:=b1 0 (.int .i64 who) rfl
 have y1:=b1 1 (.int .i64 leaf) rfl
 have y20:=b1 20 (.slice A' l.length c') rfl
 have e1:(who != who)=false:=by simp
 have e2:(leaf != leaf)=false:=by simp
 have e3:((l.length:Int) != (l.length:Int))=false:=by simp
 have R1:=hQ9 r1
 have R2:=hQ9 r2
 have GG:=hQ9 G0
 clear b0 b1 z1 z2 W2 r1 r2 G0
 generalize arrU s=ar at *
 go_enter Tryz.func156,Tryz.ntmps156
 go_wp2_with(first
  | (refine zw (by rfl) 71 (.tmp 19) rfl w.heap.size 2 rfl ar.toList _ m1.out hua rfl hia ?_)
  | (refine zw (by rfl) 71 (.tmp 21) rfl (w.heap.size+1) 2 rfl ar.toList _ m2.out hua rfl hia ?_))
 obtain⟨v,hv⟩:∃ v,(w.alloc (.cells (sgC who leaf s (.slice A l.length c)) 73)).alloc (.cells (sgC who leaf s (.slice A' l.length c')) 73)=v:=⟨_,rfl⟩
 rw [hv]at R1 R2 GG x20 y20 ⊢
 clear hv m1 m2 x0 x1 y0 y1 e1 e2 e3 Q1
 have X20:=hQ9 (fun y (g:Grew v y)=>(g.cell (p:=⟨w.heap.size,20,none⟩) (yj x20)).trans x20)
 have Y20:=hQ9 (fun y (g:Grew v y)=>(g.cell (p:=⟨w.heap.size+1,20,none⟩) (yj y20)).trans y20)
 clear x20 y20
 generalize w.heap.size=n0 at *
 go_loopw [5] (fun iv wr=>∃ k:Nat,k≤l.length∧iv=.int .i64 k∧Grew v wr) (fun iv _=>l.length-(intOf iv).toNat)
 case atStart=>exact⟨0,Nat.zero_le _,rfl,zc _⟩
 case round =>
  obtain⟨k,hk,rfl,G⟩:=hrel
  have x20:=X20.out wr G
  have y20:=Y20.out wr G
  by_cases hlt:k<l.length
  ·have hk0:(0:Int)≤(k:Int):=by omega
   have hk1:(k:Int)<(l.length:Int):=by omega
   have e1:IntKind.i64.wrap ((k:Int)+1)=((k+1:Nat):Int):=by rw [IntWalk.i64_in _ (by omega)];omega
   obtain⟨ad,hA,-,hc⟩:=yx (R1.out.gr G) k hlt
   obtain⟨bd,hB,-,hd⟩:=yx (R2.out.gr G) k hlt
   subst hA hB
   have HK:=hQ9 hlt
   have HG:=hQ9 G
   generalize l[k]=z at *
   clear hlt G
   have e5:((z:Int) != (z:Int))=false:=by simp
   go_wp2_with fail
   go_quiet (fail)
   go_wp2_with fail
   go_roundw
   case rel=>exact⟨k+1,by have:=HK.out;omega,by go_num,yr HG.out _⟩
   case measure=>have:=HK.out;simp [intOf];omega
  ·obtain rfl:k=l.length:=by omega
   have HG:=hQ9 G
   clear G
   go_wp2_with fail
   go_ret
   exact⟨rfl,ze GG.out HG.out⟩
theorem to_row (s:Nat→Nat) (w:World) :
 Calls Tryz.prog 152 #[.agg (arrU s)] w fun e w'=>e=.returned (.agg (arrU s))∧Grew w w':=by
 have hsz:=zY s
 have hon:=jP s
 have HG:=hQ9 (fun k hk=>yC s k hk)
 have HF:=hQ9 (show rowF 18 (fun k=>u64V (s k)) (.int .u64 0) 18=arrU s from yy _ _ _)
 generalize arrU s=cs at *
 have i0:(Tryz.prog.info? 64).map (·.size)=some cs.size:=by rw [hsz];kernel_rfl
 have z0:((List.replicate 18 (Value.int .u64 0)).toArray).size=cs.size:=by rw [hsz];rfl
 go_enter Tryz.func152,Tryz.ntmps152
 go_wp2_with fail
 have q0:Bk (((w.alloc (.cells cs 71)).alloc (.cells (List.replicate 18 (Value.int .u64 0)).toArray 64)).alloc (.cells (List.replicate 18 (Value.int .u64 0)).toArray 64)) w.heap.size 71 cs:=((Bk.new _ _ _).alloc _).alloc _
 have q1:Bk (((w.alloc (.cells cs 71)).alloc (.cells (List.replicate 18 (Value.int .u64 0)).toArray 64)).alloc (.cells (List.replicate 18 (Value.int .u64 0)).toArray 64)) (w.heap.size+1) 64 (List.replicate 18 (Value.int .u64 0)).toArray:=by
  have:=(Bk.new (w.alloc (.cells cs 71)) 64 (List.replicate 18 (Value.int .u64 0)).toArray).alloc (.cells (List.replicate 18 (Value.int .u64 0)).toArray 64)
  simpa using this
 have q2:Bk (((w.alloc (.cells cs 71)).alloc (.cells (List.replicate 18 (Value.int .u64 0)).toArray 64)).alloc (.cells (List.replicate 18 (Value.int .u64 0)).toArray 64)) (w.heap.size+1+1) 64 (List.replicate 18 (Value.int .u64 0)).toArray:=by
  have:=Bk.new ((w.alloc (.cells cs 71)).alloc (.cells (List.replicate 18 (Value.int .u64 0)).toArray 64)) 64 (List.replicate 18 (Value.int .u64 0)).toArray
  simpa using this
 have qb:Grew w (((w.alloc (.cells cs 71)).alloc (.cells (List.replicate 18 (Value.int .u64 0)).toArray 64)).alloc (.cells (List.replicate 18 (Value.int .u64 0)).toArray 64)):=zg (zg (zg (zc w) _) _) _
 go_loopw [4] (fun i wr=>∃ k:Nat,k≤18∧i=.int .i64 k∧Bk wr w.heap.size 71 cs∧Bk wr (w.heap.size+1) 64 (List.replicate 18 (Value.int .u64 0)).toArray∧Bk wr (w.heap.size+1+1) 64 (rowF 18 (fun k=>u64V (s k)) (.int .u64 0) k)∧Grew w wr) (fun i _=>18-(intOf i).toNat)
 case atStart=>exact⟨0,Nat.zero_le _,rfl,q0,q1,by rw [yg];exact q2,qb⟩
 case round =>
  clear q0 q1 q2 qb
  obtain⟨k,hk,rfl,h0,h1,h2,hb⟩:=hrel
  by_cases hlt:k<18
  ·have hset:(rowF 18 (fun k=>u64V (s k)) (.int .u64 0) k).setIfInBounds k (.int .u64 (s k:Nat))=rowF 18 (fun k=>u64V (s k)) (.int .u64 0) (k+1):=yi _ _ _ _ hlt
   have hc0:wr.cell? ⟨w.heap.size,k,none⟩=some (.int .u64 (s k:Nat)):=(h0.cell k).trans (HG.out k hlt)
   have hc2:wr.cell? ⟨w.heap.size+1+1,k,none⟩=some (.int .u64 0):=(h2.cell k).trans (yv _ _ _ _ hlt)
   have hf2:=h2.frozen k
   have m2:=h2.set_ k (.int .u64 (s k:Nat))
   rw [hset]at m2
   have m0:=h0.far (p:=⟨w.heap.size+1+1,k,none⟩) (by show _≠_;simp only [];omega) (.int .u64 (s k:Nat))
   have m1:=h1.far (p:=⟨w.heap.size+1+1,k,none⟩) (by show _≠_;simp only [];omega) (.int .u64 (s k:Nat))
   have mb:=hb.setCell (p:=⟨w.heap.size+1+1,k,none⟩) (by show _≤_;simp only [];omega) (.int .u64 (s k:Nat))
   have hk0:(0:Int)≤(k:Int):=by omega
   have hk1:(k:Int)<18:=by omega
   go_wp2_with fail
   go_roundw
   case rel=>exact⟨k+1,by omega,by go_num,m0,m1,m2,mb⟩
   case measure=>simp [intOf];omega
  ·obtain rfl:k=18:=by omega
   rw [HF.out]at h2
   have h3:=h1.row cs
   unfold Bk at h1 h2 h3
   go_wp2_with(first
    | (with_reducible refine wpList_load_row rfl 64 _ rfl (w.heap.size+1+1) rfl 64 cs (0,0) _ h2 Tryz.underlying64 rfl i0 ?_)
    | (with_reducible refine wpList_store_row rfl 64 _ _ rfl (w.heap.size+1) cs rfl rfl 64 _ h1 i0 z0 hon ?_))
   exact bodyPost_ret (results_cell_row Tryz.results152 _ _ (w.heap.size+1) _ cs (0,0) _ rfl h3 Tryz.underlying64 rfl i0) rfl ⟨rfl,yf hb (by omega) cs⟩
theorem zie (who leaf:Int) (s:Nat→Nat) (A:Option Addr) (n c:Nat):Tryz.prog.built 67 [(0,.int .i64 who),(1,.int .i64 leaf),(2,.agg (arrU s)),(3,.slice A n c)]=some (sgC who leaf s (.slice A n c)):=by kernel_rfl
theorem zdp:(Tryz.prog.info? 67).map (·.size)=some 21:=by kernel_rfl
theorem kB (x O I:Nat) (h:O*I%18446744073709551616=1) (hx:x<18446744073709551616):x*O%18446744073709551616*I%18446744073709551616=x:=by
 have h1:x*O%18446744073709551616*I%18446744073709551616=x*O*I%18446744073709551616:=by
  rw [Nat.mul_mod (x*O%18446744073709551616) I,Nat.mod_mod,←Nat.mul_mod]
 rw [h1,Nat.mul_assoc,Nat.mul_mod,h,Nat.mul_one,Nat.mod_mod,Nat.mod_eq_of_lt hx]
theorem zdq (x:Nat) (hx:x<18446744073709551616):(x ^^^ x / 4294967296) ^^^ (x ^^^ x / 4294967296) / 4294967296=x:=by
 have e:∀ a:Nat,a / 4294967296=a >>> 32:=fun a=>by rw [Nat.shiftRight_eq_div_pow]
 have h0:x >>> 32 >>> 32=0:=by
  rw [←Nat.shiftRight_add,Nat.shiftRight_eq_div_pow]
  exact Nat.div_eq_of_lt hx
 rw [e,e,Nat.shiftRight_xor_distrib,h0,Nat.xor_zero,Nat.xor_assoc,Nat.xor_self,Nat.xor_zero]
theorem xs_lt (x:Nat) (hx:x<18446744073709551616):(x ^^^ x / 4294967296)<18446744073709551616 :=
 yM hx (Nat.lt_of_le_of_lt (Nat.div_le_self _ _) hx)
theorem zb2 {x y:Nat} (hx:x<18446744073709551616) (hy:y<18446744073709551616) (h:x ^^^ x / 4294967296=y ^^^ y / 4294967296):x=y:=by
 rw [←zdq x hx,←zdq y hy,h]
theorem jl {x y:Nat} (hx:x<18446744073709551616) (hy:y<18446744073709551616) (h:rnd x=rnd y):x=y:=by
 unfold rnd at h
 apply zb2 hx hy
 have h1:=kB (x ^^^ x / 4294967296) 15485907386658061715 14982988110149298331 (by decide) (xs_lt x hx)
 have h2:=kB (y ^^^ y / 4294967296) 15485907386658061715 14982988110149298331 (by decide) (xs_lt y hy)
 rw [←h1,←h2,h]
theorem zgc {a a' b:Nat} (ha:a<18446744073709551616) (ha':a'<18446744073709551616) (h:mixN a b=mixN a' b):a=a':=by
 rw [xd]at h
 unfold mixC at h
 have hk:b*11400714819323198485%18446744073709551616<18446744073709551616:=Nat.mod_lt _ (by decide)
 have h1:=jl (yM ha hk) (yM ha' hk) (jl (yI _) (yI _) (zb2 (yI _) (yI _) h))
 have h2:(a ^^^ b*11400714819323198485%18446744073709551616) ^^^ (b*11400714819323198485%18446744073709551616)=(a' ^^^ b*11400714819323198485%18446744073709551616) ^^^ (b*11400714819323198485%18446744073709551616):=by rw [h1]
 rwa [Nat.xor_assoc,Nat.xor_self,Nat.xor_zero,Nat.xor_assoc,Nat.xor_self,Nat.xor_zero]at h2
theorem zaz {a b b':Nat} (ha:a<18446744073709551616) (hb:b<18446744073709551616) (hb':b'<18446744073709551616) (h:mixN a b=mixN a b'):b=b':=by
 rw [xd]at h
 unfold mixC at h
 have hk:∀ b,b*11400714819323198485%18446744073709551616<18446744073709551616:=fun b=>Nat.mod_lt _ (by decide)
 have h1:=jl (yM ha (hk b)) (yM ha (hk b')) (jl (yI _) (yI _) (zb2 (yI _) (yI _) h))
 have h2:a ^^^ (a ^^^ b*11400714819323198485%18446744073709551616)=a ^^^ (a ^^^ b'*11400714819323198485%18446744073709551616):=by rw [h1]
 rw [←Nat.xor_assoc,←Nat.xor_assoc,Nat.xor_self,Nat.zero_xor,Nat.zero_xor]at h2
 rw [←kB b 11400714819323198485 17428512612931826493 (by decide) hb,←kB b' 11400714819323198485 17428512612931826493 (by decide) hb',h2]
theorem zgd {t:List UInt8} {a a' b:Nat} (ha:a<18446744073709551616) (ha':a'<18446744073709551616) (h:twoN t a b=twoN t a' b):a=a' :=
 zaz (yV _ _) ha ha' (zgc (ym _ _) (ym _ _) h)
theorem zge {t:List UInt8} {a b b':Nat} (hb:b<18446744073709551616) (hb':b'<18446744073709551616) (h:twoN t a b=twoN t a b'):b=b' :=
 zaz (ym _ _) hb hb' h
theorem kC:∀(ps:List Nat) (x y i:Nat),x<18446744073709551616→y<18446744073709551616→climbN x i ps=climbN y i ps→x=y
 | [],x,y,i,_,_,h=>h
 | p::ps,x,y,i,hx,hy,h=>by
  rw [climbN,climbN]at h
  by_cases hi:i%2=0
  ·rw [if_pos hi,if_pos hi]at h
   exact zgd hx hy (kC ps _ _ _ (ym _ _) (ym _ _) h)
  ·rw [if_neg hi,if_neg hi]at h
   exact zge hx hy (kC ps _ _ _ (ym _ _) (ym _ _) h)
theorem vr_no (sd:Int) (h:Nat) (hh:h≤8) (m:Nat) (hm:m<2^h) (s:Nat→Nat) (d:Int) (hne:recN s d.toNat≠pubN (secN sd (m:Int))) (H:Int) :
 vrS (rootN (pubsL sd (2^h))) (m:Int) s (pathN (pubsL sd (2^h)) m) d H=false:=by
 have hl:(pubsL sd (2^h)).length=2^h:=yl _ _
 have hp:=jZ h hh (pubsL sd (2^h)) m hl (by rw [hl];exact hm)
 unfold vrS
 rw [kz ⟨by rw [hp.1];exact hh,by omega,by rw [hp.1];exact_mod_cast hm⟩]
 have hg:(pubsL sd (2^h)).getD m 0=pubN (secN sd (m:Int)):=by simp [pubsL,List.getD,hm]
 rw [hg]at hp
 simp only [Bool.and_eq_false_iff,beq_eq_false_iff_ne]
 right
 intro he
 rw [Int.toNat_natCast,←hp.2]at he
 exact hne (kC _ _ _ _ (xb _ _) (xb _ _) he)
end Go.Proofs.YtidjnnnigcmdpaaGreatDoor
