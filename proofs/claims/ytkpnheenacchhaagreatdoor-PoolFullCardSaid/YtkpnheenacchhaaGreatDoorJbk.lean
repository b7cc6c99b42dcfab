/- key.Text. -/
import Derived.Test.YtkpnheenacchhaaGreatDoorJzz
import Derived.Test.YtkpnheenacchhaaGreatDoorJbj
import Derived.Test.YtkpnheenacchhaaGreatDoorJbd
import Derived.Test.YtkpnheenacchhaaGreatDoorJan
import Derived.Test.YtkpnheenacchhaaGreatDoorJaj
import Derived.Test.YtkpnheenacchhaaGreatDoorJbh
import Derived.Test.YtkpnheenacchhaaGreatDoorJag
set_option maxHeartbeats 2000000
set_option maxRecDepth 100000
set_option linter.unusedSimpArgs false
set_option linter.unusedVariables false
namespace Go.Proofs.YtkpnheenacchhaaGreatDoor
open Go.RowKit
def oneL (s:Nat→Nat):List Nat:=(List.range 18).map s
theorem zN (s:Nat→Nat):(oneL s).length=18:=by simp [oneL]
def sgT (who leaf:Int) (s:Nat→Nat) (l:List Nat):List UInt8:=joinF [Lib.itoa who,Lib.itoa leaf,digs (oneL s),digs l]
structure FourS (w:World) (l:List ByteArray) (v:Value):Prop where
 out:∃ A,v=.slice A 4 4∧Rd w w.heap.size A (strL l)
theorem FourS.gr {w w':World} {l:List ByteArray} {v:Value} (h:FourS w l v) (g:Grew w w'):FourS w' l v:=by
 obtain⟨A,h1,h2⟩:=h.out
 exact⟨A,h1,h2.gr g⟩
theorem one_rd {w:World} {b:Nat} {who leaf:Int} {s:Nat→Nat} {pv:Value} (h:Ag w b (sgC who leaf s pv).toList):Rd w w.heap.size (some ⟨b,2,none⟩) (u64L (oneL s)):=by
 intro k hk
 have hk':k<18:=by simpa [u64L,oneL]using hk
 refine⟨_,rfl,h.lt,?_⟩
 have ha:(⟨b,2,none⟩:Addr).add k=⟨b,2+k,none⟩:=Addr.add_mid b 2 k
 rw [ha]
 have:=sg_mid h k (u64V (s k)) (by
  rw [Array.getElem?_toList]
  exact jg s k hk')
 rw [this]
 simp [u64L,oneL,u64V]
theorem jH (who leaf:Int) (s:Nat→Nat) (A:Option Addr) (c:Nat) (l:List Nat) (hw:in64 who) (hlf:in64 leaf) (hl:l.length≤1000) (hs:∀ k,k<18→s k<18446744073709551616) (hb:∀ n∈l,n<18446744073709551616) (w:World) (hS:Std w) (hr:Rd w w.heap.size A (u64L l)) :
 Calls Tryz.prog 87 #[.agg (sgC who leaf s (.slice A l.length c))] w fun e w'=>e=.returned (.string ⟨(sgT who leaf s l).toArray⟩)∧Grew w w':=by
 have z0:=Ag.new w 77 (sgC who leaf s (.slice A l.length c))
 have G0:=zc (za w) (.cells (sgC who leaf s (.slice A l.length c)) 77)
 have q0:(w.alloc (.cells (sgC who leaf s (.slice A l.length c)) 77)).cell? ⟨w.heap.size,0,none⟩=some (.int .i64 who):=by simpa using z0.cell 0 (.int .i64 who) rfl
 have q1:(w.alloc (.cells (sgC who leaf s (.slice A l.length c)) 77)).cell? ⟨w.heap.size,1,none⟩=some (.int .i64 leaf):=by simpa using z0.cell 1 (.int .i64 leaf) rfl
 have q20:(w.alloc (.cells (sgC who leaf s (.slice A l.length c)) 77)).cell? ⟨w.heap.size,20,none⟩=some (.slice A l.length c):=by simpa using z0.cell 20 (.slice A l.length c) rfl
 have R2:=hQ9 (one_rd z0)
 have R3:=hQ9 (hr.gr G0)
 have HS:=hQ9 hS
 have hbw:=z0.lt
 have C0:=hQ9 (fun W hW=>yp who hw.1 hw.2 W hW)
 have C1:=hQ9 (fun W hW=>yp leaf hlf.1 hlf.2 W hW)
 have C2:=hQ9 (fun W hW hR=>xA (some ⟨w.heap.size,2,none⟩) 18 (oneL s) (by rw [zN];omega) (fun x hx=>by
  obtain⟨k,hk,rfl⟩:=List.mem_map.1 hx
  exact hs k (List.mem_range.1 hk)) W hW hR)
 rw [zN]at C2
 have C3:=hQ9 (fun W hW hR=>xA A c l (by omega) hb W hW hR)
 have hlen:(joinF [Lib.itoa who,Lib.itoa leaf,digs (oneL s),digs l]).length≤100000000:=by
  have h1:=zD hw.1 hw.2
  have h2:=zD hlf.1 hlf.2
  have h3:=zZ (oneL s)
  rw [zN]at h3
  have h4:=zZ l
  have f1:=zq (Lib.itoa who)
  have f2:=zq (Lib.itoa leaf)
  have f3:=zq (digs (oneL s))
  have f4:=zq (digs l)
  simp only [joinF,List.flatMap_cons,List.flatMap_nil,List.length_append,List.length_cons,List.length_nil]
  omega
 have CJ:Hid (∀(A4:Option Addr) (W:World),Rd W W.heap.size A4 (strL [⟨(Lib.itoa who).toArray⟩,⟨(Lib.itoa leaf).toArray⟩,⟨(digs (oneL s)).toArray⟩,⟨(digs l).toArray⟩])→Calls Tryz.prog 84 #[.slice A4 4 4] W fun e w'=>e=.returned (.string ⟨(sgT who leaf s l).toArray⟩)∧Grew W w'):=hQ9 (fun A4 W hR=>by
  have:=yZ A4 4 [⟨(Lib.itoa who).toArray⟩,⟨(Lib.itoa leaf).toArray⟩,⟨(digs (oneL s)).toArray⟩,⟨(digs l).toArray⟩] (by simp) (by simpa [bys]using hlen) W hR
  simpa [bys,sgT]using this)
 clear hr hS hw hlf hs hb hlen
 generalize (⟨(sgT who leaf s l).toArray⟩:ByteArray)=tj at *
 generalize (⟨(Lib.itoa who).toArray⟩:ByteArray)=t0 at *
 generalize (⟨(Lib.itoa leaf).toArray⟩:ByteArray)=t1 at *
 generalize (⟨(digs (oneL s)).toArray⟩:ByteArray)=t2 at *
 generalize (⟨(digs l).toArray⟩:ByteArray)=t3 at *
 go_enter Tryz.func87,Tryz.ntmps87
 go_wp2_with fail
 generalize w.alloc (.cells (sgC who leaf s (.slice A l.length c)) 77)=w1 at *
 refine ze 14 (fun i=>match i with
  | 0=>fun v _=>v=.pointer (some ⟨w.heap.size,0,none⟩)
  | 1=>fun v _=>v=.int .i64 who
  | 2=>fun v _=>v=.string t0
  | 3=>fun v _=>v=.pointer (some ⟨w.heap.size,1,none⟩)
  | 4=>fun v _=>v=.int .i64 leaf
  | 5=>fun v _=>v=.string t1
  | 6=>fun v _=>v=.pointer (some ⟨w.heap.size,2,none⟩)
  | 7=>fun v _=>v=.slice (some ⟨w.heap.size,2,none⟩) 18 18
  | 8=>fun v _=>v=.string t2
  | 9=>fun v _=>v=.pointer (some ⟨w.heap.size,20,none⟩)
  | 10=>fun v _=>v=.slice A l.length c
  | 11=>fun v _=>v=.string t3
  | 12=>fun v w=>FourS w [t0,t1,t2,t3] v
  | 13=>fun v _=>v=.string tj
  | _=>fun _ _=>True) (by kernel_rfl) (by kernel_rfl) ?_ ?_ ?_
 ·intro i v x y h hg
  match i,h with
  | 0,h | 1,h | 2,h | 3,h | 4,h | 5,h | 6,h | 7,h | 8,h | 9,h | 10,h | 11,h | 13,h=>exact h
  | 12,h=>exact FourS.gr h hg
  | m+14,_=>trivial
 ·simp only [actOf,tk1,tk0,dr1,dr0,Act.put,si1,st1,st0,Nat.reduceAdd]
  refine⟨?_,?_,?_,?_,?_,?_,?_,?_,?_,?_,?_,?_,?_,?_,trivial⟩
  ·intro vs y hg hd
   dsimp only
   go_wp2_with fail
   exact⟨rfl,_,rfl,za _,rfl⟩
  ·intro vs y hg hd
   obtain⟨h0,_⟩:=hd
   replace h0:=h0 rfl
   dsimp only
   rw [show vs 0=_ from h0]
   have hc:=(hg.cell (p:=⟨w.heap.size,0,none⟩) hbw).trans q0
   go_wp2_with fail
   exact⟨rfl,_,rfl,za _,rfl⟩
  ·intro vs y hg hd
   obtain⟨h1,_⟩:=hd
   replace h1:=h1 rfl
   dsimp only
   rw [show vs 1=_ from h1]
   go_wp2_with(go_at_call 86;refine(C0.out y (HS.out.grew (zb G0 hg))).mono ?_;rintro e z ⟨rfl,gz⟩)
   exact⟨rfl,_,rfl,gz,rfl⟩
  ·intro vs y hg hd
   dsimp only
   go_wp2_with fail
   exact⟨rfl,_,rfl,za _,rfl⟩
  ·intro vs y hg hd
   obtain⟨h3,_⟩:=hd
   replace h3:=h3 rfl
   dsimp only
   rw [show vs 3=_ from h3]
   have hc:=(hg.cell (p:=⟨w.heap.size,1,none⟩) hbw).trans q1
   go_wp2_with fail
   exact⟨rfl,_,rfl,za _,rfl⟩
  ·intro vs y hg hd
   obtain⟨h4,_⟩:=hd
   replace h4:=h4 rfl
   dsimp only
   rw [show vs 4=_ from h4]
   go_wp2_with(go_at_call 86;refine(C1.out y (HS.out.grew (zb G0 hg))).mono ?_;rintro e z ⟨rfl,gz⟩)
   exact⟨rfl,_,rfl,gz,rfl⟩
  ·intro vs y hg hd
   dsimp only
   go_wp2_with fail
   exact⟨rfl,_,rfl,za _,rfl⟩
  ·intro vs y hg hd
   obtain⟨h6,_⟩:=hd
   replace h6:=h6 rfl
   dsimp only
   rw [show vs 6=_ from h6]
   go_wp2_with fail
   exact⟨rfl,_,rfl,za _,rfl⟩
  ·intro vs y hg hd
   obtain⟨h7,_⟩:=hd
   replace h7:=h7 rfl
   dsimp only
   rw [show vs 7=_ from h7]
   go_wp2_with(go_at_call 156;refine(C2.out y (HS.out.grew (zb G0 hg)) (R2.out.gr hg)).mono ?_;rintro e z ⟨rfl,gz⟩)
   exact⟨rfl,_,rfl,gz,rfl⟩
  ·intro vs y hg hd
   dsimp only
   go_wp2_with fail
   exact⟨rfl,_,rfl,za _,rfl⟩
  ·intro vs y hg hd
   obtain⟨h9,_⟩:=hd
   replace h9:=h9 rfl
   dsimp only
   rw [show vs 9=_ from h9]
   have hc:=(hg.cell (p:=⟨w.heap.size,20,none⟩) hbw).trans q20
   go_wp2_with fail
   exact⟨rfl,_,rfl,za _,rfl⟩
  ·intro vs y hg hd
   obtain⟨h10,_⟩:=hd
   replace h10:=h10 rfl
   dsimp only
   rw [show vs 10=_ from h10]
   go_wp2_with(go_at_call 156;refine(C3.out y (HS.out.grew (zb G0 hg)) (R3.out.gr hg)).mono ?_;rintro e z ⟨rfl,gz⟩)
   exact⟨rfl,_,rfl,gz,rfl⟩
  ·intro vs y hg hd
   obtain⟨h2,h5,h8,h11,_⟩:=hd
   replace h2:=h2 rfl
   replace h5:=h5 rfl
   replace h8:=h8 rfl
   replace h11:=h11 rfl
   dsimp only
   rw [show vs 2=_ from h2,show vs 5=_ from h5,show vs 8=_ from h8,show vs 11=_ from h11]
   go_wp2_with fail
   exact⟨rfl,_,rfl,zc (za _) _,⟨_,rfl,yu y _ _⟩⟩
  ·intro vs y hg hd
   obtain⟨h12,_⟩:=hd
   replace h12:=h12 rfl
   dsimp only
   obtain⟨A4,hv,r4⟩:=FourS.out h12
   rw [hv]
   go_wp2_with(go_at_call 84;refine(CJ.out A4 y r4).mono ?_;rintro e z ⟨rfl,gz⟩)
   exact⟨rfl,_,rfl,gz,rfl⟩
 ·intro vs y hg hJ
  have j0:vs 0=.pointer (some ⟨w.heap.size,0,none⟩):=hJ 0 (by decide)
  have j1:vs 1=.int .i64 who:=hJ 1 (by decide)
  have j2:vs 2=.string t0:=hJ 2 (by decide)
  have j3:vs 3=.pointer (some ⟨w.heap.size,1,none⟩):=hJ 3 (by decide)
  have j4:vs 4=.int .i64 leaf:=hJ 4 (by decide)
  have j5:vs 5=.string t1:=hJ 5 (by decide)
  have j6:vs 6=.pointer (some ⟨w.heap.size,2,none⟩):=hJ 6 (by decide)
  have j7:vs 7=.slice (some ⟨w.heap.size,2,none⟩) 18 18:=hJ 7 (by decide)
  have j8:vs 8=.string t2:=hJ 8 (by decide)
  have j9:vs 9=.pointer (some ⟨w.heap.size,20,none⟩):=hJ 9 (by decide)
  have j10:vs 10=.slice A l.length c:=hJ 10 (by decide)
  have j11:vs 11=.string t3:=hJ 11 (by decide)
  have j13:vs 13=.string tj:=hJ 13 (by decide)
  simp only [actOf,tk1,tk0,dr1,dr0,Act.put,si1,st1,st0,Nat.reduceAdd]
  rw [j13]
  clear hJ j0 j1 j2 j3 j4 j5 j6 j7 j8 j9 j10 j11 j13
  go_wp2_with fail
  go_ret
  exact⟨rfl,zb G0 hg⟩
def stC (cm:Nat) (who at_ sw lf:Int) (s:Nat→Nat) (pv:Value):Array Value:=#[.int .u64 (cm:Nat),.int .i64 who,.int .i64 at_,.int .i64 sw,.int .i64 lf,u64V (s 0),u64V (s 1),u64V (s 2),u64V (s 3),u64V (s 4),u64V (s 5),u64V (s 6),u64V (s 7),u64V (s 8),u64V (s 9),u64V (s 10),u64V (s 11),u64V (s 12),u64V (s 13),u64V (s 14),u64V (s 15),u64V (s 16),u64V (s 17),pv]
theorem qy (cm:Nat) (who at_ sw lf:Int) (s:Nat→Nat) (A:Option Addr) (n c:Nat):(stC cm who at_ sw lf s (.slice A n c)).all (·.oneCell')=true:=by simp [stC,u64V,Value.oneCell']
theorem zA:(Tryz.prog.info? 157).map (·.size)=some 24:=by kernel_rfl
theorem kR {w:World} {b o m:Nat} {cs sub:List Value} (h:w.rangeAt b o cs) (hs:∀ j v,sub[j]?=some v→cs[m+j]?=some v):w.rangeAt b (o+m) sub:=fun j v hv=>by
 rw [Nat.add_assoc];exact h (m+j) v (hs j v hv)
theorem jI {cs sub:List Value} (m:Nat) (h:cs.drop m=sub):∀ j v,sub[j]?=some v→cs[m+j]?=some v:=fun j v hv=>by
 rw [←h,List.getElem?_drop]at hv
 exact hv
theorem kS {w:World} {b:Nat} {cm:Nat} {who at_ sw lf:Int} {s:Nat→Nat} {pv:Value} (h:w.rangeAt b 0 (stC cm who at_ sw lf s pv).toList):w.rangeAt b 3 (sgC sw lf s pv).toList:=by
 have:w.rangeAt b (0+3) (sgC sw lf s pv).toList:=kR (m:=3) h (jI 3 rfl)
 rwa [Nat.zero_add]at this
def stT (cm:Nat) (who at_ sw lf:Int) (s:Nat→Nat) (l:List Nat):List UInt8:=joinF [hexL cm,Lib.itoa who,Lib.itoa at_,sgT sw lf s l]
theorem qz (who leaf:Int) (s:Nat→Nat) (l:List Nat) (hw:in64 who) (hlf:in64 leaf) (hl:l.length≤1000):(sgT who leaf s l).length≤100000:=by
 unfold sgT
 have h1:=zD hw.1 hw.2
 have h2:=zD hlf.1 hlf.2
 have h3:=zZ (oneL s)
 rw [zN]at h3
 have h4:=zZ l
 have f1:=zq (Lib.itoa who)
 have f2:=zq (Lib.itoa leaf)
 have f3:=zq (digs (oneL s))
 have f4:=zq (digs l)
 simp only [joinF,List.flatMap_cons,List.flatMap_nil,List.length_append,List.length_cons,List.length_nil]
 omega
theorem x8 (cm:Nat) (who at_ sw lf:Int) (s:Nat→Nat) (l:List Nat) (hw:in64 who) (ha:in64 at_) (hsw:in64 sw) (hlf:in64 lf) (hl:l.length≤1000):(stT cm who at_ sw lf s l).length≤1000000:=by
 unfold stT
 have h1:=zD hw.1 hw.2
 have h2:=zD ha.1 ha.2
 have h3:=xI cm
 have h4:=qz sw lf s l hsw hlf hl
 have f1:=zq (Lib.itoa who)
 have f2:=zq (Lib.itoa at_)
 have f3:=zq (hexL cm)
 have f4:=zq (sgT sw lf s l)
 simp only [joinF,List.flatMap_cons,List.flatMap_nil,List.length_append,List.length_cons,List.length_nil]
 omega
theorem kT (cm:Nat) (who at_ sw lf:Int) (s:Nat→Nat) (A:Option Addr) (c:Nat) (l:List Nat) (hc:cm<18446744073709551616) (hw:in64 who) (ha:in64 at_) (hsw:in64 sw) (hlf:in64 lf) (hl:l.length≤1000) (hs:∀ k,k<18→s k<18446744073709551616) (hb:∀ n∈l,n<18446744073709551616) (w:World) (hS:Std w) (hr:Rd w w.heap.size A (u64L l)) :
 Calls Tryz.prog 189 #[.agg (stC cm who at_ sw lf s (.slice A l.length c))] w fun e w'=>e=.returned (.string ⟨(stT cm who at_ sw lf s l).toArray⟩)∧Grew w w':=by
 have z0:=Ag.new w 157 (stC cm who at_ sw lf s (.slice A l.length c))
 have g0:=zc (za w) (.cells (stC cm who at_ sw lf s (.slice A l.length c)) 157)
 have hus:=Tryz.underlying77
 have HSI:Hid ((Tryz.prog.info? 77).map (·.size)=some (sgC sw lf s (.slice A l.length c)).toList.length):=hQ9 zU
 have HS:=hQ9 hS
 have hlen:=x8 cm who at_ sw lf s l hw ha hsw hlf hl
 have C0:=hQ9 (fun W hW=>x7 cm (show U64n cm from hc) W hW)
 have C1:=hQ9 (fun W hW=>yp who hw.1 hw.2 W hW)
 have C2:=hQ9 (fun W hW=>yp at_ ha.1 ha.2 W hW)
 have C3:=hQ9 (fun W hW h1=>jH sw lf s A c l hsw hlf hl hs hb W hW h1)
 have CJ:Hid (∀(A4:Option Addr) (W:World),Rd W W.heap.size A4 (strL [hexB cm,⟨(Lib.itoa who).toArray⟩,⟨(Lib.itoa at_).toArray⟩,⟨(sgT sw lf s l).toArray⟩])→Calls Tryz.prog 84 #[.slice A4 4 4] W fun e w'=>e=.returned (.string ⟨(stT cm who at_ sw lf s l).toArray⟩)∧Grew W w'):=hQ9 (fun A4 W hR=>by
  have:=yZ A4 4 [hexB cm,⟨(Lib.itoa who).toArray⟩,⟨(Lib.itoa at_).toArray⟩,⟨(sgT sw lf s l).toArray⟩] (by simp) (by simp only [stT]at hlen;simp [bys,hexB]at hlen ⊢;omega) W hR
  simpa [bys,stT,hexB]using this)
 have HR:=hQ9 hr
 clear hS hc hw ha hlen hsw hlf hl hs hb hr
 generalize (⟨(stT cm who at_ sw lf s l).toArray⟩:ByteArray)=tj at *
 generalize hexB cm=t0 at *
 generalize (⟨(Lib.itoa who).toArray⟩:ByteArray)=t1 at *
 generalize (⟨(Lib.itoa at_).toArray⟩:ByteArray)=t2 at *
 generalize (⟨(sgT sw lf s l).toArray⟩:ByteArray)=t3 at *
 go_enter Tryz.func189,Tryz.ntmps189
 go_wp2_with fail
 generalize w.alloc (.cells (stC cm who at_ sw lf s (.slice A l.length c)) 157)=w1 at *
 have z1:=z0
 have G0:=hQ9 g0
 have HRR:=hQ9 (fun y (g:Grew w1 y)=>(HR.out.gr G0.out).gr g)
 have HC0:Hid (∀ y,Grew w1 y→y.cell? ⟨w.heap.size,0,none⟩=some (.int .u64 (cm:Nat))):=hQ9 (fun y g=>by simpa using (z1.grew g).cell 0 _ rfl)
 have HC1:Hid (∀ y,Grew w1 y→y.cell? ⟨w.heap.size,1,none⟩=some (.int .i64 who)):=hQ9 (fun y g=>by simpa using (z1.grew g).cell 1 _ rfl)
 have HC2:Hid (∀ y,Grew w1 y→y.cell? ⟨w.heap.size,2,none⟩=some (.int .i64 at_)):=hQ9 (fun y g=>by simpa using (z1.grew g).cell 2 _ rfl)
 have HCM:Hid (∀ y,Grew w1 y→y.rangeAt w.heap.size 3 (sgC sw lf s (.slice A l.length c)).toList):=hQ9 (fun y g=>kS (z1.grew g).cell)
 clear z0 z1 g0
 refine ze 14 (fun i=>match i with
  | 0=>fun v _=>v=.pointer (some ⟨w.heap.size,0,none⟩)
  | 1=>fun v _=>v=.int .u64 (cm:Nat)
  | 2=>fun v _=>v=.string t0
  | 3=>fun v _=>v=.pointer (some ⟨w.heap.size,1,none⟩)
  | 4=>fun v _=>v=.int .i64 who
  | 5=>fun v _=>v=.string t1
  | 6=>fun v _=>v=.pointer (some ⟨w.heap.size,2,none⟩)
  | 7=>fun v _=>v=.int .i64 at_
  | 8=>fun v _=>v=.string t2
  | 9=>fun v _=>v=.pointer (some ⟨w.heap.size,3,none⟩)
  | 10=>fun v _=>v=.agg (sgC sw lf s (.slice A l.length c))
  | 11=>fun v _=>v=.string t3
  | 12=>fun v w=>FourS w [t0,t1,t2,t3] v
  | 13=>fun v _=>v=.string tj
  | _=>fun _ _=>True) (by kernel_rfl) (by kernel_rfl) ?_ ?_ ?_
 ·intro i v x y h hg
  match i,h with
  | 0,h | 1,h | 2,h | 3,h | 4,h | 5,h | 6,h | 7,h | 8,h | 9,h | 10,h | 11,h | 13,h=>exact h
  | 12,h=>exact FourS.gr h hg
  | m+14,_=>trivial
 ·simp only [actOf,tk1,tk0,dr1,dr0,Act.put,si1,st1,st0,Nat.reduceAdd]
  refine⟨?_,?_,?_,?_,?_,?_,?_,?_,?_,?_,?_,?_,?_,?_,trivial⟩
  ·intro vs y hg hd
   dsimp only
   go_wp2_with fail
   exact⟨rfl,_,rfl,za _,rfl⟩
  ·intro vs y hg hd
   obtain⟨h0,_⟩:=hd
   replace h0:=h0 rfl
   dsimp only
   rw [show vs 0=_ from h0]
   have hc:=HC0.out y hg
   go_wp2_with fail
   exact⟨rfl,_,rfl,za _,rfl⟩
  ·intro vs y hg hd
   obtain⟨h1,_⟩:=hd
   replace h1:=h1 rfl
   dsimp only
   rw [show vs 1=_ from h1]
   go_wp2_with(go_at_call 85;refine(C0.out y (HS.out.grew (zb G0.out hg))).mono ?_;rintro e z ⟨rfl,gz⟩)
   exact⟨rfl,_,rfl,gz,rfl⟩
  ·intro vs y hg hd
   dsimp only
   go_wp2_with fail
   exact⟨rfl,_,rfl,za _,rfl⟩
  ·intro vs y hg hd
   obtain⟨h3,_⟩:=hd
   replace h3:=h3 rfl
   dsimp only
   rw [show vs 3=_ from h3]
   have hc:=HC1.out y hg
   go_wp2_with fail
   exact⟨rfl,_,rfl,za _,rfl⟩
  ·intro vs y hg hd
   obtain⟨h4,_⟩:=hd
   replace h4:=h4 rfl
   dsimp only
   rw [show vs 4=_ from h4]
   go_wp2_with(go_at_call 86;refine(C1.out y (HS.out.grew (zb G0.out hg))).mono ?_;rintro e z ⟨rfl,gz⟩)
   exact⟨rfl,_,rfl,gz,rfl⟩
  ·intro vs y hg hd
   dsimp only
   go_wp2_with fail
   exact⟨rfl,_,rfl,za _,rfl⟩
  ·intro vs y hg hd
   obtain⟨h6,_⟩:=hd
   replace h6:=h6 rfl
   dsimp only
   rw [show vs 6=_ from h6]
   have hc:=HC2.out y hg
   go_wp2_with fail
   exact⟨rfl,_,rfl,za _,rfl⟩
  ·intro vs y hg hd
   obtain⟨h7,_⟩:=hd
   replace h7:=h7 rfl
   dsimp only
   rw [show vs 7=_ from h7]
   go_wp2_with(go_at_call 86;refine(C2.out y (HS.out.grew (zb G0.out hg))).mono ?_;rintro e z ⟨rfl,gz⟩)
   exact⟨rfl,_,rfl,gz,rfl⟩
  ·intro vs y hg hd
   dsimp only
   go_wp2_with fail
   exact⟨rfl,_,rfl,za _,rfl⟩
  ·intro vs y hg hd
   obtain⟨h9,_⟩:=hd
   replace h9:=h9 rfl
   dsimp only
   rw [show vs 9=_ from h9]
   have hm:=HCM.out y hg
   go_wp2_with(with_reducible refine wpList_load_mid rfl 77 (.tmp 12) rfl w.heap.size 3 rfl (sgC sw lf s (.slice A l.length c)).toList _ hm hus rfl HSI.out ?_)
   exact⟨rfl,_,rfl,za _,rfl⟩
  ·intro vs y hg hd
   obtain⟨h10,_⟩:=hd
   replace h10:=h10 rfl
   dsimp only
   rw [show vs 10=_ from h10]
   go_wp2_with(go_at_call 87;refine(C3.out y (HS.out.grew (zb G0.out hg)) (HRR.out y hg)).mono ?_;rintro e z ⟨rfl,gz⟩)
   exact⟨rfl,_,rfl,gz,rfl⟩
  ·intro vs y hg hd
   obtain⟨h2,h5,h8,h11,_⟩:=hd
   replace h2:=h2 rfl
   replace h5:=h5 rfl
   replace h8:=h8 rfl
   replace h11:=h11 rfl
   dsimp only
   rw [show vs 2=_ from h2,show vs 5=_ from h5,show vs 8=_ from h8,show vs 11=_ from h11]
   go_wp2_with fail
   exact⟨rfl,_,rfl,zc (za _) _,⟨_,rfl,yu y _ _⟩⟩
  ·intro vs y hg hd
   obtain⟨h12,_⟩:=hd
   replace h12:=h12 rfl
   dsimp only
   obtain⟨A4,hv,r4⟩:=FourS.out h12
   rw [hv]
   go_wp2_with(go_at_call 84;refine(CJ.out A4 y r4).mono ?_;rintro e z ⟨rfl,gz⟩)
   exact⟨rfl,_,rfl,gz,rfl⟩
 ·intro vs y hg hJ
  have j0:vs 0=.pointer (some ⟨w.heap.size,0,none⟩):=hJ 0 (by decide)
  have j1:vs 1=.int .u64 (cm:Nat):=hJ 1 (by decide)
  have j2:vs 2=.string t0:=hJ 2 (by decide)
  have j3:vs 3=.pointer (some ⟨w.heap.size,1,none⟩):=hJ 3 (by decide)
  have j4:vs 4=.int .i64 who:=hJ 4 (by decide)
  have j5:vs 5=.string t1:=hJ 5 (by decide)
  have j6:vs 6=.pointer (some ⟨w.heap.size,2,none⟩):=hJ 6 (by decide)
  have j7:vs 7=.int .i64 at_:=hJ 7 (by decide)
  have j8:vs 8=.string t2:=hJ 8 (by decide)
  have j9:vs 9=.pointer (some ⟨w.heap.size,3,none⟩):=hJ 9 (by decide)
  have j10:vs 10=.agg (sgC sw lf s (.slice A l.length c)):=hJ 10 (by decide)
  have j11:vs 11=.string t3:=hJ 11 (by decide)
  have j13:vs 13=.string tj:=hJ 13 (by decide)
  have s15:=hJ 12 (by decide)
  clear hJ
  simp only [actOf,tk1,tk0,dr1,dr0,Act.put,si1,st1,st0,Nat.reduceAdd]
  rw [j13]
  clear j0 j1 j2 j3 j4 j5 j6 j7 j8 j9 j10 j11 s15 j13
  go_wp2_with fail
  go_ret
  exact⟨rfl,zb G0.out hg⟩
def akC (cm:Nat) (who sw lf:Int) (s:Nat→Nat) (pv:Value):Array Value:=#[.int .u64 (cm:Nat),.int .i64 who,.int .i64 sw,.int .i64 lf,u64V (s 0),u64V (s 1),u64V (s 2),u64V (s 3),u64V (s 4),u64V (s 5),u64V (s 6),u64V (s 7),u64V (s 8),u64V (s 9),u64V (s 10),u64V (s 11),u64V (s 12),u64V (s 13),u64V (s 14),u64V (s 15),u64V (s 16),u64V (s 17),pv]
theorem qA (cm:Nat) (who sw lf:Int) (s:Nat→Nat) (A:Option Addr) (n c:Nat):(akC cm who sw lf s (.slice A n c)).all (·.oneCell')=true:=by simp [akC,u64V,Value.oneCell']
structure ThreeS (w:World) (l:List ByteArray) (v:Value):Prop where
 out:∃ A,v=.slice A 3 3∧Rd w w.heap.size A (strL l)
theorem ThreeS.gr {w w':World} {l:List ByteArray} {v:Value} (h:ThreeS w l v) (g:Grew w w'):ThreeS w' l v:=by
 obtain⟨A,h1,h2⟩:=h.out
 exact⟨A,h1,h2.gr g⟩
theorem xB {z:Nat}:∀(L:List (List Value)),(∀ l∈L,l.length=z)→∀ k j (hk:k<L.length),j<z→L.flatten[k*z+j]?=L[k][j]?
 | [],_,k,_,hk,_=>absurd hk (by simp)
 | l::r,h,0,j,_,hj=>by
  have hl:=h l (by simp)
  simp only [List.flatten_cons,Nat.zero_mul,Nat.zero_add,List.getElem_cons_zero]
  exact List.getElem?_append_left (by omega)
 | l::r,h,k+1,j,hk,hj=>by
  have hl:=h l (by simp)
  have e:(k+1)*z+j=l.length+(k*z+j):=by rw [hl,Nat.add_mul];omega
  rw [List.flatten_cons,e,List.getElem?_append_right (by omega),Nat.add_sub_cancel_left]
  simpa using xB r (fun x hx=>h x (by simp [hx])) k j (by simpa using hk) hj
def RdC (w:World) (A:Option Addr) (z:Nat) (L:List (List Value)):Prop:=∀ k (h:k<L.length),∃ q,A=some ⟨q,0,none⟩∧q<w.heap.size∧w.rangeAt q (k*z) L[k]
theorem RdC.nil (w:World) (A:Option Addr) (z:Nat):RdC w A z []:=fun k h=>absurd h (by simp)
theorem RdC.kp {S:Nat→Prop} {w w':World} {A:Option Addr} {z:Nat} {L:List (List Value)} (h:RdC w A z L) (k:Kp S w w') (hs:∀ q,A=some ⟨q,0,none⟩→¬S q):RdC w' A z L:=fun i hi=>by
 obtain⟨q,e,hq,hr⟩:=h i hi
 exact⟨q,e,Nat.lt_of_lt_of_le hq k.size,fun j v hj=>by
  rw [←hr j v hj]
  exact World.cell?_of_block (k.block q hq (hs q e))⟩
theorem RdC.gr {w w':World} {A:Option Addr} {z:Nat} {L:List (List Value)} (h:RdC w A z L) (k:Grew w w'):RdC w' A z L:=h.kp (S:=fun _=>False) (zi k) (fun _ _ h=>h)
theorem RdC.take {w:World} {A:Option Addr} {z:Nat} {L:List (List Value)} (h:RdC w A z L) (n:Nat):RdC w A z (L.take n):=fun i hi=>by
 have hi':i<L.length:=by rw [List.length_take]at hi;omega
 obtain⟨q,e,hq,hr⟩:=h i hi'
 exact⟨q,e,hq,by rw [List.getElem_take];exact hr⟩
theorem qB {w:World} {base n z:Nat} {e:TypeId} {v:Value} {L:List (List Value)} (h:w.ownsRow base e z v n L.flatten) (hz:∀ l∈L,l.length=z) (hz0:0<z) (hn:L.length=n) :
 ∃ A c,v=.slice A n c∧RdC w A z L∧n≤c∧c≤maxLen∧∀ ad,A=some ad→base≤ad.block∧ad.block<w.heap.size:=by
 rcases h.2 with ⟨rfl,h0⟩ | ⟨g,cap,cur,rfl,hb,hh,h1,h2,h3,h4⟩
 ·subst h0
  obtain rfl:=List.eq_nil_of_length_eq_zero hn
  exact⟨none,0,rfl,RdC.nil _ _ _,Nat.le_refl _,Nat.zero_le _,fun ad h=>by cases h⟩
 ·have hlt:g<w.heap.size:=(Array.getElem?_eq_some_iff.1 hh).1
  refine⟨some ⟨g,0,none⟩,cap,rfl,fun k hk=>⟨g,rfl,hlt,fun j u hj=>?_⟩,h1,h2,fun ad h=>by cases h;exact⟨hb,hlt⟩⟩
  have hjz:j<z:=by have:=(List.getElem?_eq_some_iff.1 hj).1;rw [hz L[k] (List.getElem_mem hk)]at this;exact this
  have hf:=xB L hz k j hk hjz
  rw [hj]at hf
  have:=h.cells (g:=g) rfl (k*z+j) u hf
  rwa [show(⟨g,0,none⟩:Addr).add (k*z+j)=⟨g,k*z+j,none⟩ from by unfold Addr.add;split<;>simp_all]at this
structure SP where
 cm:Nat
 who:Int
 at_:Int
 sw:Int
 lf:Int
 s:Nat→Nat
 A:Option Addr
 c:Nat
 l:List Nat
def SP.C (S:SP):Array Value:=stC S.cm S.who S.at_ S.sw S.lf S.s (.slice S.A S.l.length S.c)
structure SP.ok (S:SP):Prop where
 cm:S.cm<18446744073709551616
 who:in64 S.who
 at_:in64 S.at_
 sw:in64 S.sw
 lf:in64 S.lf
 s:∀ k,k<18→S.s k<18446744073709551616
 len:S.l.length≤1000
 l:∀ x∈S.l,x<18446744073709551616
def SP.at (S:SP) (w:World):Prop:=Rd w w.heap.size S.A (u64L S.l)
theorem SP.at.gr {S:SP} {w w':World} (h:S.at w) (g:Grew w w'):S.at w':=Rd.gr h g
def spL (L:List SP):List (List Value):=L.map fun S=>S.C.toList
theorem spL_z (L:List SP):∀ l∈spL L,l.length=24:=fun l hl=>by
 obtain⟨S,_,rfl⟩:=List.mem_map.1 hl
 rfl
theorem y6 (L:List SP):(spL L).length=L.length:=by simp [spL]
theorem kl (L M:List SP):spL (L++M)=spL L++spL M:=by simp [spL]
theorem jJ (L:List SP) (n:Nat):spL (L.take n)=(spL L).take n:=by simp [spL]
theorem SP.one (S:SP):S.C.all (·.oneCell')=true:=qy _ _ _ _ _ _ _ _ _
theorem SP.one' (S:SP):∀ u∈S.C.toList,u.oneCell'=true:=fun u hu=>by
 have:=S.one
 rw [Array.all_eq_true]at this
 obtain⟨i,hi,rfl⟩:=List.getElem_of_mem hu
 simpa using this i (by simpa using hi)
structure Sps (w:World) (A:Option Addr) (L:List SP):Prop where
 rd:RdC w A 24 (spL L)
 ok:∀ S∈L,S.ok
 at_:∀ S∈L,S.at w
theorem Sps.gr {w w':World} {A:Option Addr} {L:List SP} (h:Sps w A L) (g:Grew w w'):Sps w' A L:=⟨h.rd.gr g,h.ok,fun S hS=>(h.at_ S hS).gr g⟩
theorem Sps.take {w:World} {A:Option Addr} {L:List SP} (h:Sps w A L) (n:Nat):Sps w A (L.take n) :=
 ⟨by rw [jJ];exact h.rd.take n,fun S hS=>h.ok S (List.mem_of_mem_take hS),fun S hS=>h.at_ S (List.mem_of_mem_take hS)⟩
theorem Sps.get {w:World} {A:Option Addr} {L:List SP} (h:Sps w A L) (k:Nat) (hk:k<L.length):∃ q,A=some ⟨q,0,none⟩∧q<w.heap.size∧w.rangeAt q (k*24) L[k].C.toList:=by
 obtain⟨q,e,hq,hr⟩:=h.rd k (by rw [y6];exact hk)
 exact⟨q,e,hq,by simpa [spL]using hr⟩
theorem qC (W:World) (t:TypeId) (z cs:Array Value) (h:cs.size=z.size):∃ W',(W.alloc (.cells z t)).setCells W.heap.size 0 cs.toList=W'∧(W.alloc (.cells z t)).there W.heap.size 0 cs.size∧Grew W W'∧Ag W' W.heap.size cs.toList :=
 ⟨_,rfl,by rw [h];exact(Ag.new W t z).thereN z.size (by simp),zn (o:=0) (b:=W.heap.size) cs.toList (zc (za W) _) (Nat.le_refl _),Ag.set (vs:=cs.toList) (Ag.new W t z) (by simp [h])⟩
end Go.Proofs.YtkpnheenacchhaaGreatDoor
