/- key.Text. -/
import Derived.Test.YtkpnheenacchhaaGreatDoorPzz
import Derived.Test.YtkpnheenacchhaaGreatDoorPbg
import Derived.Test.YtkpnheenacchhaaGreatDoorPbd
import Derived.Test.YtkpnheenacchhaaGreatDoorPbb
import Derived.Test.YtkpnheenacchhaaGreatDoorPaj
import Derived.Test.YtkpnheenacchhaaGreatDoorPaw
import Derived.Test.YtkpnheenacchhaaGreatDoorPag
set_option maxHeartbeats 2000000
set_option maxRecDepth 100000
set_option linter.unusedSimpArgs false
set_option linter.unusedVariables false
namespace Go.Proofs.YtkpnheenacchhaaGreatDoor
open Go.RowKit
def oneL (s:Nat→Nat):List Nat:=(List.range 18).map s
theorem zW (s:Nat→Nat):(oneL s).length=18:=by simp [oneL]
def sgT (who leaf:Int) (s:Nat→Nat) (l:List Nat):List UInt8:=joinF [Lib.itoa who,Lib.itoa leaf,digs (oneL s),digs l]
structure FourS (w:World) (l:List ByteArray) (v:Value):Prop where
 out:∃ A,v=.slice A 4 4∧Rd w w.heap.size A (strL l)
theorem FourS.gr {w w':World} {l:List ByteArray} {v:Value} (h:FourS w l v) (g:Grew w w'):FourS w' l v:=by
 obtain⟨A,h1,h2⟩:=h.out
 exact⟨A,h1,h2.gr g⟩
theorem one_rd {w:World} {b:Nat} {who leaf:Int} {s:Nat→Nat} {pv:Value} (h:Ag w b (sgC who leaf s pv).toList):Rd w w.heap.size (some ⟨b,2,none⟩) (u64L (oneL s)):=by
 intro k hk
 have hk':k<18:=by simpa [u64L,oneL]using hk
 refine⟨_,rfl,h.lt,?_⟩
 have ha:(⟨b,2,none⟩:Addr).add k=⟨b,2+k,none⟩:=Addr.add_mid b 2 k
 rw [ha]
 have:=xZ h k (u64V (s k)) (by
  rw [Array.getElem?_toList]
  exact yx s k hk')
 rw [this]
 simp [u64L,oneL,u64V]
theorem zem (who leaf:Int) (s:Nat→Nat) (A:Option Addr) (c:Nat) (l:List Nat) (hw:in64 who) (hlf:in64 leaf) (hl:l.length≤1000) (hs:∀ k,k<18→s k<18446744073709551616) (hb:∀ n∈l,n<18446744073709551616) (w:World) (hS:Std w) (hr:Rd w w.heap.size A (u64L l)) :
 Calls Tryz.prog 87 #[.agg (sgC who leaf s (.slice A l.length c))] w fun e w'=>e=.returned (.string ⟨(sgT who leaf s l).toArray⟩)∧Grew w w':=by
 have z0:=Ag.new w 77 (sgC who leaf s (.slice A l.length c))
 have G0:=ze (za w) (.cells (sgC who leaf s (.slice A l.length c)) 77)
 have q0:(w.alloc (.cells (sgC who leaf s (.slice A l.length c)) 77)).cell? ⟨w.heap.size,0,none⟩=some (.int .i64 who):=by simpa using z0.cell 0 (.int .i64 who) rfl
 have q1:(w.alloc (.cells (sgC who leaf s (.slice A l.length c)) 77)).cell? ⟨w.heap.size,1,none⟩=some (.int .i64 leaf):=by simpa using z0.cell 1 (.int .i64 leaf) rfl
 have q20:(w.alloc (.cells (sgC who leaf s (.slice A l.length c)) 77)).cell? ⟨w.heap.size,20,none⟩=some (.slice A l.length c):=by simpa using z0.cell 20 (.slice A l.length c) rfl
 have R2:=hQ9 (one_rd z0)
 have R3:=hQ9 (hr.gr G0)
 have HS:=hQ9 hS
 have hbw:=z0.lt
 have C0:=hQ9 (fun W hW=>xE who hw.1 hw.2 W hW)
 have C1:=hQ9 (fun W hW=>xE leaf hlf.1 hlf.2 W hW)
 have C2:=hQ9 (fun W hW hR=>zek (some ⟨w.heap.size,2,none⟩) 18 (oneL s) (by rw [zW];omega) (fun x hx=>by
  obtain⟨k,hk,rfl⟩:=List.mem_map.1 hx
  exact hs k (List.mem_range.1 hk)) W hW hR)
 rw [zW]at C2
 have C3:=hQ9 (fun W hW hR=>zek A c l (by omega) hb W hW hR)
 have hlen:(joinF [Lib.itoa who,Lib.itoa leaf,digs (oneL s),digs l]).length≤100000000:=by
  have h1:=ym hw.1 hw.2
  have h2:=ym hlf.1 hlf.2
  have h3:=xc (oneL s)
  rw [zW]at h3
  have h4:=xc l
  have f1:=zP (Lib.itoa who)
  have f2:=zP (Lib.itoa leaf)
  have f3:=zP (digs (oneL s))
  have f4:=zP (digs l)
  simp only [joinF,List.flatMap_cons,List.flatMap_nil,List.length_append,List.length_cons,List.length_nil]
  omega
 have CJ:Hid (∀(A4:Option Addr) (W:World),Rd W W.heap.size A4 (strL [⟨(Lib.itoa who).toArray⟩,⟨(Lib.itoa leaf).toArray⟩,⟨(digs (oneL s)).toArray⟩,⟨(digs l).toArray⟩])→Calls Tryz.prog 84 #[.slice A4 4 4] W fun e w'=>e=.returned (.string ⟨(sgT who leaf s l).toArray⟩)∧Grew W w'):=hQ9 (fun A4 W hR=>by
  have:=kn A4 4 [⟨(Lib.itoa who).toArray⟩,⟨(Lib.itoa leaf).toArray⟩,⟨(digs (oneL s)).toArray⟩,⟨(digs l).toArray⟩] (by simp) (by simpa [bys]using hlen) W hR
  simpa [bys,sgT]using this)
 clear hr hS hw hlf hs hb hlen
 generalize (⟨(sgT who leaf s l).toArray⟩:ByteArray)=tj at *
 generalize (⟨(Lib.itoa who).toArray⟩:ByteArray)=t0 at *
 generalize (⟨(Lib.itoa leaf).toArray⟩:ByteArray)=t1 at *
 generalize (⟨(digs (oneL s)).toArray⟩:ByteArray)=t2 at *
 generalize (⟨(digs l).toArray⟩:ByteArray)=t3 at *
 go_enter Tryz.func87,Tryz.ntmps87
 go_wp2_with fail
 generalize w.alloc (.cells (sgC who leaf s (.slice A l.length c)) 77)=w1 at *
 refine zv 14 (fun i=>match i with
  | 0=>fun v _=>v=.pointer (some ⟨w.heap.size,0,none⟩)
  | 1=>fun v _=>v=.int .i64 who
  | 2=>fun v _=>v=.string t0
  | 3=>fun v _=>v=.pointer (some ⟨w.heap.size,1,none⟩)
  | 4=>fun v _=>v=.int .i64 leaf
  | 5=>fun v _=>v=.string t1
  | 6=>fun v _=>v=.pointer (some ⟨w.heap.size,2,none⟩)
  | 7=>fun v _=>v=.slice (some ⟨w.heap.size,2,none⟩) 18 18
  | 8=>fun v _=>v=.string t2
  | 9=>fun v _=>v=.pointer (some ⟨w.heap.size,20,none⟩)
  | 10=>fun v _=>v=.slice A l.length c
  | 11=>fun v _=>v=.string t3
  | 12=>fun v w=>FourS w [t0,t1,t2,t3] v
  | 13=>fun v _=>v=.string tj
  | _=>fun _ _=>True) (by kernel_rfl) (by kernel_rfl) ?_ ?_ ?_
 ·intro i v x y h hg
  match i,h with
  | 0,h | 1,h | 2,h | 3,h | 4,h | 5,h | 6,h | 7,h | 8,h | 9,h | 10,h | 11,h | 13,h=>exact h
  | 12,h=>exact FourS.gr h hg
  | m+14,_=>trivial
 ·simp only [actOf,tk1,tk0,dr1,dr0,Act.put,si1,st1,st0,Nat.reduceAdd]
  refine⟨?_,?_,?_,?_,?_,?_,?_,?_,?_,?_,?_,?_,?_,?_,trivial⟩
  ·intro vs y hg hd
   dsimp only
   go_wp2_with fail
   exact⟨rfl,_,rfl,za _,rfl⟩
  ·intro vs y hg hd
   obtain⟨h0,_⟩:=hd
   replace h0:=h0 rfl
   dsimp only
   rw [show vs 0=_ from h0]
   have hc:=(hg.cell (p:=⟨w.heap.size,0,none⟩) hbw).trans q0
   go_wp2_with fail
   exact⟨rfl,_,rfl,za _,rfl⟩
  ·intro vs y hg hd
   obtain⟨h1,_⟩:=hd
   replace h1:=h1 rfl
   dsimp only
   rw [show vs 1=_ from h1]
   go_wp2_with(go_at_call 86;refine(C0.out y (HS.out.grew (zb G0 hg))).mono ?_;rintro e z ⟨rfl,gz⟩)
   exact⟨rfl,_,rfl,gz,rfl⟩
  ·intro vs y hg hd
   dsimp only
   go_wp2_with fail
   exact⟨rfl,_,rfl,za _,rfl⟩
  ·intro vs y hg hd
   obtain⟨h3,_⟩:=hd
   replace h3:=h3 rfl
   dsimp only
   rw [show vs 3=_ from h3]
   have hc:=(hg.cell (p:=⟨w.heap.size,1,none⟩) hbw).trans q1
   go_wp2_with fail
   exact⟨rfl,_,rfl,za _,rfl⟩
  ·intro vs y hg hd
   obtain⟨h4,_⟩:=hd
   replace h4:=h4 rfl
   dsimp only
   rw [show vs 4=_ from h4]
   go_wp2_with(go_at_call 86;refine(C1.out y (HS.out.grew (zb G0 hg))).mono ?_;rintro e z ⟨rfl,gz⟩)
   exact⟨rfl,_,rfl,gz,rfl⟩
  ·intro vs y hg hd
   dsimp only
   go_wp2_with fail
   exact⟨rfl,_,rfl,za _,rfl⟩
  ·intro vs y hg hd
   obtain⟨h6,_⟩:=hd
   replace h6:=h6 rfl
   dsimp only
   rw [show vs 6=_ from h6]
   go_wp2_with fail
   exact⟨rfl,_,rfl,za _,rfl⟩
  ·intro vs y hg hd
   obtain⟨h7,_⟩:=hd
   replace h7:=h7 rfl
   dsimp only
   rw [show vs 7=_ from h7]
   go_wp2_with(go_at_call 156;refine(C2.out y (HS.out.grew (zb G0 hg)) (R2.out.gr hg)).mono ?_;rintro e z ⟨rfl,gz⟩)
   exact⟨rfl,_,rfl,gz,rfl⟩
  ·intro vs y hg hd
   dsimp only
   go_wp2_with fail
   exact⟨rfl,_,rfl,za _,rfl⟩
  ·intro vs y hg hd
   obtain⟨h9,_⟩:=hd
   replace h9:=h9 rfl
   dsimp only
   rw [show vs 9=_ from h9]
   have hc:=(hg.cell (p:=⟨w.heap.size,20,none⟩) hbw).trans q20
   go_wp2_with fail
   exact⟨rfl,_,rfl,za _,rfl⟩
  ·intro vs y hg hd
   obtain⟨h10,_⟩:=hd
   replace h10:=h10 rfl
   dsimp only
   rw [show vs 10=_ from h10]
   go_wp2_with(go_at_call 156;refine(C3.out y (HS.out.grew (zb G0 hg)) (R3.out.gr hg)).mono ?_;rintro e z ⟨rfl,gz⟩)
   exact⟨rfl,_,rfl,gz,rfl⟩
  ·intro vs y hg hd
   obtain⟨h2,h5,h8,h11,_⟩:=hd
   replace h2:=h2 rfl
   replace h5:=h5 rfl
   replace h8:=h8 rfl
   replace h11:=h11 rfl
   dsimp only
   rw [show vs 2=_ from h2,show vs 5=_ from h5,show vs 8=_ from h8,show vs 11=_ from h11]
   go_wp2_with fail
   exact⟨rfl,_,rfl,ze (za _) _,⟨_,rfl,yD y _ _⟩⟩
  ·intro vs y hg hd
   obtain⟨h12,_⟩:=hd
   replace h12:=h12 rfl
   dsimp only
   obtain⟨A4,hv,r4⟩:=FourS.out h12
   rw [hv]
   go_wp2_with(go_at_call 84;refine(CJ.out A4 y r4).mono ?_;rintro e z ⟨rfl,gz⟩)
   exact⟨rfl,_,rfl,gz,rfl⟩
 ·intro vs y hg hJ
  have j0:vs 0=.pointer (some ⟨w.heap.size,0,none⟩):=hJ 0 (by decide)
  have j1:vs 1=.int .i64 who:=hJ 1 (by decide)
  have j2:vs 2=.string t0:=hJ 2 (by decide)
  have j3:vs 3=.pointer (some ⟨w.heap.size,1,none⟩):=hJ 3 (by decide)
  have j4:vs 4=.int .i64 leaf:=hJ 4 (by decide)
  have j5:vs 5=.string t1:=hJ 5 (by decide)
  have j6:vs 6=.pointer (some ⟨w.heap.size,2,none⟩):=hJ 6 (by decide)
  have j7:vs 7=.slice (some ⟨w.heap.size,2,none⟩) 18 18:=hJ 7 (by decide)
  have j8:vs 8=.string t2:=hJ 8 (by decide)
  have j9:vs 9=.pointer (some ⟨w.heap.size,20,none⟩):=hJ 9 (by decide)
  have j10:vs 10=.slice A l.length c:=hJ 10 (by decide)
  have j11:vs 11=.string t3:=hJ 11 (by decide)
  have j13:vs 13=.string tj:=hJ 13 (by decide)
  simp only [actOf,tk1,tk0,dr1,dr0,Act.put,si1,st1,st0,Nat.reduceAdd]
  rw [j13]
  clear hJ j0 j1 j2 j3 j4 j5 j6 j7 j8 j9 j10 j11 j13
  go_wp2_with fail
  go_ret
  exact⟨rfl,zb G0 hg⟩
def tmB (at_:Int):Bool:=decide (1≤at_∧at_≤1099511627776)
theorem zco (at_:Int) (w:World):Calls Tryz.prog 179 #[.int .i64 at_] w fun e w'=>e=.returned (.bool (tmB at_))∧w=w':=by
 by_cases h1:1≤at_
 ·by_cases h2:at_≤1099511627776
  ·rw [show tmB at_=true from decide_eq_true ⟨h1,h2⟩]
   go_enter Tryz.func179,Tryz.ntmps179
   go_wp2_with fail
   go_ret
   exact⟨rfl,rfl⟩
  ·rw [show tmB at_=false from zF9 (fun h=>h2 h.2)]
   go_enter Tryz.func179,Tryz.ntmps179
   go_wp2_with fail
   go_ret
   exact⟨rfl,rfl⟩
 ·rw [show tmB at_=false from zF9 (fun h=>h1 h.1)]
  go_enter Tryz.func179,Tryz.ntmps179
  go_wp2_with fail
  go_ret
  exact⟨rfl,rfl⟩
def tagStamp:List UInt8:=[115,116,97,109,112]
def stW (cm:Nat) (who at_:Int):List UInt8:=joinF [tagStamp,hexL cm,Lib.itoa who,Lib.itoa at_]
noncomputable def stD (cm:Nat) (who at_:Int):Nat:=sumL tagStamp (stW cm who at_)
theorem zen (cm:Nat) (who at_:Int):stD cm who at_<18446744073709551616:=xe _ _
theorem qv (cm:Nat) (who at_:Int) (hw:in64 who) (ha:in64 at_):(stW cm who at_).length≤1000:=by
 unfold stW
 have h1:=ym hw.1 hw.2
 have h2:=ym ha.1 ha.2
 have h3:=ye cm
 have f1:=zP (Lib.itoa who)
 have f2:=zP (Lib.itoa at_)
 have f3:=zP (hexL cm)
 have f4:=zP tagStamp
 have h5:tagStamp.length=5:=rfl
 simp only [joinF,List.flatMap_cons,List.flatMap_nil,List.length_append,List.length_cons,List.length_nil]
 omega
theorem zil (cm:Nat) (who at_:Int) (hc:cm<18446744073709551616) (hw:in64 who) (ha:in64 at_) (w:World) (hS:Std w) :
 Calls Tryz.prog 230 #[.int .u64 (cm:Nat),.int .i64 who,.int .i64 at_] w fun e w'=>e=.returned (.string ⟨(stW cm who at_).toArray⟩)∧Grew w w':=by
 have HS:=hQ9 hS
 have hlen:=qv cm who at_ hw ha
 have C0:=hQ9 (fun W hW=>je cm (show U64n cm from hc) W hW)
 have C1:=hQ9 (fun W hW=>xE who hw.1 hw.2 W hW)
 have C2:=hQ9 (fun W hW=>xE at_ ha.1 ha.2 W hW)
 have CJ:Hid (∀(A4:Option Addr) (W:World),Rd W W.heap.size A4 (strL [⟨#[115,116,97,109,112]⟩,hexB cm,⟨(Lib.itoa who).toArray⟩,⟨(Lib.itoa at_).toArray⟩])→Calls Tryz.prog 84 #[.slice A4 4 4] W fun e w'=>e=.returned (.string ⟨(stW cm who at_).toArray⟩)∧Grew W w'):=hQ9 (fun A4 W hR=>by
  have:=kn A4 4 [⟨#[115,116,97,109,112]⟩,hexB cm,⟨(Lib.itoa who).toArray⟩,⟨(Lib.itoa at_).toArray⟩] (by simp) (by simp only [stW]at hlen;simp [bys,hexB,tagStamp]at hlen ⊢;omega) W hR
  simpa [bys,stW,hexB,tagStamp]using this)
 clear hS hc hw ha hlen
 generalize (⟨(stW cm who at_).toArray⟩:ByteArray)=tj at *
 generalize hexB cm=t0 at *
 generalize (⟨(Lib.itoa who).toArray⟩:ByteArray)=t1 at *
 generalize (⟨(Lib.itoa at_).toArray⟩:ByteArray)=t2 at *
 go_enter Tryz.func230,Tryz.ntmps230
 go_wp2_with fail
 refine(C0.out w HS.out).mono ?_
 rintro e w1 ⟨rfl,g1⟩
 go_wp2_with fail
 refine(C1.out w1 (HS.out.grew g1)).mono ?_
 rintro e w2 ⟨rfl,gg⟩
 have g2:=zb g1 gg
 clear g1 gg
 go_wp2_with fail
 refine(C2.out w2 (HS.out.grew g2)).mono ?_
 rintro e w3 ⟨rfl,gg⟩
 have g3:=zb g2 gg
 clear g2 gg
 go_wp2_with fail
 refine(CJ.out _ _ (yD w3 _ #[.string ⟨#[115,116,97,109,112]⟩,.string t0,.string t1,.string t2])).mono ?_
 rintro e w4 ⟨rfl,gg⟩
 have g4:=zb (ze g3 _) gg
 clear g3 gg
 go_wp2_with fail
 go_ret
 exact⟨rfl,g4⟩
theorem qO (cm:Nat) (who at_:Int) (hc:cm<18446744073709551616) (hw:in64 who) (ha:in64 at_) (w:World) (hS:Std w) :
 Calls Tryz.prog 180 #[.int .u64 (cm:Nat),.int .i64 who,.int .i64 at_] w fun e w'=>e=.returned (.int .u64 (stD cm who at_:Nat))∧Grew w w':=by
 have CW:=hQ9 (zil cm who at_ hc hw ha w hS)
 have CH:=hQ9 (fun W=>jU ⟨#[115,116,97,109,112]⟩ ⟨(stW cm who at_).toArray⟩ (by decide) (by have:=qv cm who at_ hw ha;simp [ByteArray.size];omega) W)
 have e1:sumL (⟨#[115,116,97,109,112]⟩:ByteArray).data.toList (⟨(stW cm who at_).toArray⟩:ByteArray).data.toList=stD cm who at_:=by simp [stD,tagStamp]
 rw [e1]at CH
 clear e1 hc hw ha hS
 generalize stD cm who at_=d at *
 generalize (⟨(stW cm who at_).toArray⟩:ByteArray)=tj at *
 go_enter Tryz.func180,Tryz.ntmps180
 go_wp2_with fail
 refine(CW.out).mono ?_
 rintro e w1 ⟨rfl,g1⟩
 go_wp2_with fail
 refine(CH.out w1).mono ?_
 rintro e w2 ⟨rfl,rfl⟩
 go_wp2_with fail
 go_ret
 exact⟨rfl,g1⟩
def tagAck:List UInt8:=[97,99,107]
def akW (cm:Nat) (who:Int):List UInt8:=joinF [tagAck,hexL cm,Lib.itoa who]
noncomputable def akD (cm:Nat) (who:Int):Nat:=sumL tagAck (akW cm who)
theorem zeo (cm:Nat) (who:Int):akD cm who<18446744073709551616:=xe _ _
theorem qw (cm:Nat) (who:Int) (hw:in64 who):(akW cm who).length≤1000:=by
 unfold akW
 have h1:=ym hw.1 hw.2
 have h3:=ye cm
 have f1:=zP (Lib.itoa who)
 have f3:=zP (hexL cm)
 have f4:=zP tagAck
 have h5:tagAck.length=3:=rfl
 simp only [joinF,List.flatMap_cons,List.flatMap_nil,List.length_append,List.length_cons,List.length_nil]
 omega
theorem za8 (cm:Nat) (who:Int) (hc:cm<18446744073709551616) (hw:in64 who) (w:World) (hS:Std w) :
 Calls Tryz.prog 40 #[.int .u64 (cm:Nat),.int .i64 who] w fun e w'=>e=.returned (.string ⟨(akW cm who).toArray⟩)∧Grew w w':=by
 have HS:=hQ9 hS
 have hlen:=qw cm who hw
 have C0:=hQ9 (fun W hW=>je cm (show U64n cm from hc) W hW)
 have C1:=hQ9 (fun W hW=>xE who hw.1 hw.2 W hW)
 have CJ:Hid (∀(A4:Option Addr) (W:World),Rd W W.heap.size A4 (strL [⟨#[97,99,107]⟩,hexB cm,⟨(Lib.itoa who).toArray⟩])→Calls Tryz.prog 84 #[.slice A4 3 3] W fun e w'=>e=.returned (.string ⟨(akW cm who).toArray⟩)∧Grew W w'):=hQ9 (fun A4 W hR=>by
  have:=kn A4 3 [⟨#[97,99,107]⟩,hexB cm,⟨(Lib.itoa who).toArray⟩] (by simp) (by simp only [akW]at hlen;simp [bys,hexB,tagAck]at hlen ⊢;omega) W hR
  simpa [bys,akW,hexB,tagAck]using this)
 clear hS hc hw hlen
 generalize (⟨(akW cm who).toArray⟩:ByteArray)=tj at *
 generalize hexB cm=t0 at *
 generalize (⟨(Lib.itoa who).toArray⟩:ByteArray)=t1 at *
 go_enter Tryz.func40,Tryz.ntmps40
 go_wp2_with fail
 refine(C0.out w HS.out).mono ?_
 rintro e w1 ⟨rfl,g1⟩
 go_wp2_with fail
 refine(C1.out w1 (HS.out.grew g1)).mono ?_
 rintro e w2 ⟨rfl,gg⟩
 have g2:=zb g1 gg
 clear g1 gg
 go_wp2_with fail
 refine(CJ.out _ _ (yD w2 _ #[.string ⟨#[97,99,107]⟩,.string t0,.string t1])).mono ?_
 rintro e w4 ⟨rfl,gg⟩
 have g4:=zb (ze g2 _) gg
 clear g2 gg
 go_wp2_with fail
 go_ret
 exact⟨rfl,g4⟩
theorem kV (cm:Nat) (who:Int) (hc:cm<18446744073709551616) (hw:in64 who) (w:World) (hS:Std w) :
 Calls Tryz.prog 38 #[.int .u64 (cm:Nat),.int .i64 who] w fun e w'=>e=.returned (.int .u64 (akD cm who:Nat))∧Grew w w':=by
 have CW:=hQ9 (za8 cm who hc hw w hS)
 have CH:=hQ9 (fun W=>jU ⟨#[97,99,107]⟩ ⟨(akW cm who).toArray⟩ (by decide) (by have:=qw cm who hw;simp [ByteArray.size];omega) W)
 have e1:sumL (⟨#[97,99,107]⟩:ByteArray).data.toList (⟨(akW cm who).toArray⟩:ByteArray).data.toList=akD cm who:=by simp [akD,tagAck]
 rw [e1]at CH
 clear e1 hc hw hS
 generalize akD cm who=d at *
 generalize (⟨(akW cm who).toArray⟩:ByteArray)=tj at *
 go_enter Tryz.func38,Tryz.ntmps38
 go_wp2_with fail
 refine(CW.out).mono ?_
 rintro e w1 ⟨rfl,g1⟩
 go_wp2_with fail
 refine(CH.out w1).mono ?_
 rintro e w2 ⟨rfl,rfl⟩
 go_wp2_with fail
 go_ret
 exact⟨rfl,g1⟩
def stC (cm:Nat) (who at_ sw lf:Int) (s:Nat→Nat) (pv:Value):Array Value:=#[.int .u64 (cm:Nat),.int .i64 who,.int .i64 at_,.int .i64 sw,.int .i64 lf,u64V (s 0),u64V (s 1),u64V (s 2),u64V (s 3),u64V (s 4),u64V (s 5),u64V (s 6),u64V (s 7),u64V (s 8),u64V (s 9),u64V (s 10),u64V (s 11),u64V (s 12),u64V (s 13),u64V (s 14),u64V (s 15),u64V (s 16),u64V (s 17),pv]
def mkC (who:Int) (d:Nat) (sw lf:Int) (s:Nat→Nat) (pv:Value):Array Value:=#[.int .i64 who,.int .u64 (d:Nat),.int .i64 sw,.int .i64 lf,u64V (s 0),u64V (s 1),u64V (s 2),u64V (s 3),u64V (s 4),u64V (s 5),u64V (s 6),u64V (s 7),u64V (s 8),u64V (s 9),u64V (s 10),u64V (s 11),u64V (s 12),u64V (s 13),u64V (s 14),u64V (s 15),u64V (s 16),u64V (s 17),pv]
theorem jf (cm:Nat) (who at_ sw lf:Int) (s:Nat→Nat) (A:Option Addr) (n c:Nat):(stC cm who at_ sw lf s (.slice A n c)).all (·.oneCell')=true:=by simp [stC,u64V,Value.oneCell']
theorem qx (who:Int) (d:Nat) (sw lf:Int) (s:Nat→Nat) (A:Option Addr) (n c:Nat):(mkC who d sw lf s (.slice A n c)).all (·.oneCell')=true:=by simp [mkC,u64V,Value.oneCell']
theorem zK:(Tryz.prog.info? 157).map (·.size)=some 24:=by kernel_rfl
theorem kr:(Tryz.prog.info? 263).map (·.size)=some 23:=by kernel_rfl
theorem zep (who:Int) (d:Nat) (sw lf:Int) (s:Nat→Nat) (A:Option Addr) (n c:Nat):Tryz.prog.built 263 [(0,.int .i64 who),(1,.int .u64 (d:Nat)),(2,.agg (sgC sw lf s (.slice A n c)))]=some (mkC who d sw lf s (.slice A n c)):=by kernel_rfl
theorem zeq (cm:Nat) (who at_ sw lf:Int) (s:Nat→Nat) (A:Option Addr) (n c:Nat):Tryz.prog.built 157 [(0,.int .u64 (cm:Nat)),(1,.int .i64 who),(2,.int .i64 at_),(3,.agg (sgC sw lf s (.slice A n c)))]=some (stC cm who at_ sw lf s (.slice A n c)):=by kernel_rfl
theorem qa {w:World} {b o m:Nat} {cs sub:List Value} (h:w.rangeAt b o cs) (hs:∀ j v,sub[j]?=some v→cs[m+j]?=some v):w.rangeAt b (o+m) sub:=fun j v hv=>by
 rw [Nat.add_assoc];exact h (m+j) v (hs j v hv)
theorem zai {cs sub:List Value} (m:Nat) (h:cs.drop m=sub):∀ j v,sub[j]?=some v→cs[m+j]?=some v:=fun j v hv=>by
 rw [←h,List.getElem?_drop]at hv
 exact hv
theorem xF {w:World} {b:Nat} {cm:Nat} {who at_ sw lf:Int} {s:Nat→Nat} {pv:Value} (h:w.rangeAt b 0 (stC cm who at_ sw lf s pv).toList):w.rangeAt b 3 (sgC sw lf s pv).toList:=by
 have:w.rangeAt b (0+3) (sgC sw lf s pv).toList:=qa (m:=3) h (zai 3 rfl)
 rwa [Nat.zero_add]at this
theorem zkh {w:World} {b:Nat} {d:Nat} {who sw lf:Int} {s:Nat→Nat} {pv:Value} (h:w.rangeAt b 0 (mkC who d sw lf s pv).toList):w.rangeAt b 2 (sgC sw lf s pv).toList:=by
 have:w.rangeAt b (0+2) (sgC sw lf s pv).toList:=qa (m:=2) h (zai 2 rfl)
 rwa [Nat.zero_add]at this
theorem zo5 (cm:Nat) (who at_ sw lf:Int) (s:Nat→Nat) (A:Option Addr) (c:Nat) (l:List Nat) (hc:cm<18446744073709551616) (hw:in64 who) (ha:in64 at_) (w:World) (hS:Std w) :
 Calls Tryz.prog 216 #[.agg (stC cm who at_ sw lf s (.slice A l.length c))] w fun e w'=>e=.returned (.agg (mkC who (stD cm who at_) sw lf s (.slice A l.length c)))∧Grew w w':=by
 have z0:=Ag.new w 157 (stC cm who at_ sw lf s (.slice A l.length c))
 have g0:=ze (za w) (.cells (stC cm who at_ sw lf s (.slice A l.length c)) 157)
 have hus:=Tryz.underlying77
 have HSI:Hid (zI9 77=some (sgC sw lf s (.slice A l.length c)).toList.length):=hQ9 zG
 have HS:=hQ9 hS
 have hum:=Tryz.underlying263
 have CD:=hQ9 (fun W hW=>qO cm who at_ hc hw ha W hW)
 obtain⟨d,hd⟩:∃ d,stD cm who at_=d:=⟨_,rfl⟩
 rw [hd]at CD ⊢
 have HBU:=hQ9 (zep who d sw lf s A l.length c)
 have zm:Ag ((w.alloc (.cells (stC cm who at_ sw lf s (.slice A l.length c)) 157)).alloc (.cells (zM23) 263)) (w.heap.size+1) (zM23:Array Value).toList:=by
  have:=Ag.new (w.alloc (.cells (stC cm who at_ sw lf s (.slice A l.length c)) 157)) 263 (zM23)
  simpa using this
 have z1:=z0.grew (ze (za _) (.cells (zM23) 263))
 have g1:=ze g0 (.cells (zM23) 263)
 clear hd hS hc hw ha z0 g0
 go_enter Tryz.func216,Tryz.ntmps216
 go_wp2_with fail
 generalize (w.alloc (.cells (stC cm who at_ sw lf s (.slice A l.length c)) 157)).alloc (.cells (zM23) 263)=w1 at *
 have G0:=hQ9 g1
 have HC0:Hid (∀ y,Grew w1 y→y.cell? ⟨w.heap.size,0,none⟩=some (.int .u64 (cm:Nat))):=hQ9 (fun y g=>by simpa using (z1.grew g).cell 0 _ rfl)
 have HC1:Hid (∀ y,Grew w1 y→y.cell? ⟨w.heap.size,1,none⟩=some (.int .i64 who)):=hQ9 (fun y g=>by simpa using (z1.grew g).cell 1 _ rfl)
 have HC2:Hid (∀ y,Grew w1 y→y.cell? ⟨w.heap.size,2,none⟩=some (.int .i64 at_)):=hQ9 (fun y g=>by simpa using (z1.grew g).cell 2 _ rfl)
 have HCM:Hid (∀ y,Grew w1 y→y.rangeAt w.heap.size 3 (sgC sw lf s (.slice A l.length c)).toList):=hQ9 (fun y g=>xF (z1.grew g).cell)
 clear z1 g1
 refine zv 12 (fun i=>match i with
  | 0=>fun v _=>v=.pointer (some ⟨w.heap.size,1,none⟩)
  | 1=>fun v _=>v=.int .i64 who
  | 2=>fun v _=>v=.pointer (some ⟨w.heap.size,0,none⟩)
  | 3=>fun v _=>v=.int .u64 (cm:Nat)
  | 4=>fun v _=>v=.pointer (some ⟨w.heap.size,1,none⟩)
  | 5=>fun v _=>v=.int .i64 who
  | 6=>fun v _=>v=.pointer (some ⟨w.heap.size,2,none⟩)
  | 7=>fun v _=>v=.int .i64 at_
  | 8=>fun v _=>v=.int .u64 (d:Nat)
  | 9=>fun v _=>v=.pointer (some ⟨w.heap.size,3,none⟩)
  | 10=>fun v _=>v=.agg (sgC sw lf s (.slice A l.length c))
  | 11=>fun v _=>v=.agg (mkC who d sw lf s (.slice A l.length c))
  | _=>fun _ _=>True) (by kernel_rfl) (by kernel_rfl) ?_ ?_ ?_
 ·intro i v x y h hg
  match i,h with
  | 0,h | 1,h | 2,h | 3,h | 4,h | 5,h | 6,h | 7,h | 8,h | 9,h | 10,h | 11,h=>exact h
  | m+12,_=>trivial
 ·simp only [actOf,tk1,tk0,dr1,dr0,Act.put,si1,st1,st0,Nat.reduceAdd]
  refine⟨?_,?_,?_,?_,?_,?_,?_,?_,?_,?_,?_,?_,trivial⟩
  ·intro vs y hg hd
   dsimp only
   go_wp2_with fail
   exact⟨rfl,_,rfl,za _,rfl⟩
  ·intro vs y hg hd
   obtain⟨h0,_⟩:=hd
   replace h0:=h0 rfl
   dsimp only
   rw [show vs 0=_ from h0]
   have hc:=HC1.out y hg
   go_wp2_with fail
   exact⟨rfl,_,rfl,za _,rfl⟩
  ·intro vs y hg hd
   dsimp only
   go_wp2_with fail
   exact⟨rfl,_,rfl,za _,rfl⟩
  ·intro vs y hg hd
   obtain⟨h2,_⟩:=hd
   replace h2:=h2 rfl
   dsimp only
   rw [show vs 2=_ from h2]
   have hc:=HC0.out y hg
   go_wp2_with fail
   exact⟨rfl,_,rfl,za _,rfl⟩
  ·intro vs y hg hd
   dsimp only
   go_wp2_with fail
   exact⟨rfl,_,rfl,za _,rfl⟩
  ·intro vs y hg hd
   obtain⟨h4,_⟩:=hd
   replace h4:=h4 rfl
   dsimp only
   rw [show vs 4=_ from h4]
   have hc:=HC1.out y hg
   go_wp2_with fail
   exact⟨rfl,_,rfl,za _,rfl⟩
  ·intro vs y hg hd
   dsimp only
   go_wp2_with fail
   exact⟨rfl,_,rfl,za _,rfl⟩
  ·intro vs y hg hd
   obtain⟨h6,_⟩:=hd
   replace h6:=h6 rfl
   dsimp only
   rw [show vs 6=_ from h6]
   have hc:=HC2.out y hg
   go_wp2_with fail
   exact⟨rfl,_,rfl,za _,rfl⟩
  ·intro vs y hg hd
   obtain⟨h3,h5,h7,_⟩:=hd
   replace h3:=h3 rfl
   replace h5:=h5 rfl
   replace h7:=h7 rfl
   dsimp only
   rw [show vs 3=_ from h3,show vs 5=_ from h5,show vs 7=_ from h7]
   go_wp2_with(go_at_call 180;refine(CD.out y (HS.out.grew (zb G0.out hg))).mono ?_;rintro e z ⟨rfl,gz⟩)
   exact⟨rfl,_,rfl,gz,rfl⟩
  ·intro vs y hg hd
   dsimp only
   go_wp2_with fail
   exact⟨rfl,_,rfl,za _,rfl⟩
  ·intro vs y hg hd
   obtain⟨h9,_⟩:=hd
   replace h9:=h9 rfl
   dsimp only
   rw [show vs 9=_ from h9]
   have hm:=HCM.out y hg
   go_wp2_with(with_reducible refine wpList_load_mid rfl 77 (.tmp 12) rfl w.heap.size 3 rfl (sgC sw lf s (.slice A l.length c)).toList _ hm hus rfl HSI.out ?_)
   exact⟨rfl,_,rfl,za _,rfl⟩
  ·intro vs y hg hd
   obtain⟨h1,h8,h10,_⟩:=hd
   replace h1:=h1 rfl
   replace h8:=h8 rfl
   replace h10:=h10 rfl
   dsimp only
   rw [show vs 1=_ from h1,show vs 8=_ from h8,show vs 10=_ from h10]
   refine zC rfl 263 #[(0,.tmp 4),(1,.tmp 11),(2,.tmp 13)] rfl _ (by simpa [Act.eval]using HBU.out) ?_
   go_wp2_with fail
   exact⟨rfl,_,rfl,za _,rfl⟩
 ·intro vs y hg hJ
  have j0:vs 0=.pointer (some ⟨w.heap.size,1,none⟩):=hJ 0 (by decide)
  have j1:vs 1=.int .i64 who:=hJ 1 (by decide)
  have j2:vs 2=.pointer (some ⟨w.heap.size,0,none⟩):=hJ 2 (by decide)
  have j3:vs 3=.int .u64 (cm:Nat):=hJ 3 (by decide)
  have j4:vs 4=.pointer (some ⟨w.heap.size,1,none⟩):=hJ 4 (by decide)
  have j5:vs 5=.int .i64 who:=hJ 5 (by decide)
  have j6:vs 6=.pointer (some ⟨w.heap.size,2,none⟩):=hJ 6 (by decide)
  have j7:vs 7=.int .i64 at_:=hJ 7 (by decide)
  have j8:vs 8=.int .u64 (d:Nat):=hJ 8 (by decide)
  have j9:vs 9=.pointer (some ⟨w.heap.size,3,none⟩):=hJ 9 (by decide)
  have j10:vs 10=.agg (sgC sw lf s (.slice A l.length c)):=hJ 10 (by decide)
  have j11:vs 11=.agg (mkC who d sw lf s (.slice A l.length c)):=hJ 11 (by decide)
  clear hJ
  simp only [actOf,tk1,tk0,dr1,dr0,Act.put,si1,st1,st0,Nat.reduceAdd]
  rw [j11]
  clear j0 j1 j2 j3 j4 j5 j6 j7 j8 j9 j10 j11
  have z2:=zm.grew hg
  have HTH:Hid (y.there (w.heap.size+1) 0 (mkC who d sw lf s (.slice A l.length c)).size):=hQ9 (z2.thereN 23 rfl)
  have HSM:Hid (zI9 263=some (mkC who d sw lf s (.slice A l.length c)).size):=hQ9 kr
  have HON:=hQ9 (qx who d sw lf s A l.length c)
  have z3:=Ag.set (vs:=(mkC who d sw lf s (.slice A l.length c)).toList) z2 rfl
  have G3:=zh (o:=0) (b:=w.heap.size+1) (mkC who d sw lf s (.slice A l.length c)).toList (zb G0.out hg) (by omega)
  go_wp2_with(with_reducible refine wpList_store_mid rfl 263 (.tmp 2) (.tmp 14) rfl (w.heap.size+1) 0 (mkC who d sw lf s (.slice A l.length c)) rfl rfl HTH.out HSM.out HON.out ?_)
  exact bodyPost_ret (zL Tryz.results216 _ _ (w.heap.size+1) _ _ rfl z3 hum rfl kr) rfl ⟨rfl,G3⟩
def stT (cm:Nat) (who at_ sw lf:Int) (s:Nat→Nat) (l:List Nat):List UInt8:=joinF [hexL cm,Lib.itoa who,Lib.itoa at_,sgT sw lf s l]
theorem zgz (who leaf:Int) (s:Nat→Nat) (l:List Nat) (hw:in64 who) (hlf:in64 leaf) (hl:l.length≤1000):(sgT who leaf s l).length≤100000:=by
 unfold sgT
 have h1:=ym hw.1 hw.2
 have h2:=ym hlf.1 hlf.2
 have h3:=xc (oneL s)
 rw [zW]at h3
 have h4:=xc l
 have f1:=zP (Lib.itoa who)
 have f2:=zP (Lib.itoa leaf)
 have f3:=zP (digs (oneL s))
 have f4:=zP (digs l)
 simp only [joinF,List.flatMap_cons,List.flatMap_nil,List.length_append,List.length_cons,List.length_nil]
 omega
theorem zbs (cm:Nat) (who at_ sw lf:Int) (s:Nat→Nat) (l:List Nat) (hw:in64 who) (ha:in64 at_) (hsw:in64 sw) (hlf:in64 lf) (hl:l.length≤1000):(stT cm who at_ sw lf s l).length≤1000000:=by
 unfold stT
 have h1:=ym hw.1 hw.2
 have h2:=ym ha.1 ha.2
 have h3:=ye cm
 have h4:=zgz sw lf s l hsw hlf hl
 have f1:=zP (Lib.itoa who)
 have f2:=zP (Lib.itoa at_)
 have f3:=zP (hexL cm)
 have f4:=zP (sgT sw lf s l)
 simp only [joinF,List.flatMap_cons,List.flatMap_nil,List.length_append,List.length_cons,List.length_nil]
 omega
theorem zki (cm:Nat) (who at_ sw lf:Int) (s:Nat→Nat) (A:Option Addr) (c:Nat) (l:List Nat) (hc:cm<18446744073709551616) (hw:in64 who) (ha:in64 at_) (hsw:in64 sw) (hlf:in64 lf) (hl:l.length≤1000) (hs:∀ k,k<18→s k<18446744073709551616) (hb:∀ n∈l,n<18446744073709551616) (w:World) (hS:Std w) (hr:Rd w w.heap.size A (u64L l)) :
 Calls Tryz.prog 189 #[.agg (stC cm who at_ sw lf s (.slice A l.length c))] w fun e w'=>e=.returned (.string ⟨(stT cm who at_ sw lf s l).toArray⟩)∧Grew w w':=by
 have z0:=Ag.new w 157 (stC cm who at_ sw lf s (.slice A l.length c))
 have g0:=ze (za w) (.cells (stC cm who at_ sw lf s (.slice A l.length c)) 157)
 have hus:=Tryz.underlying77
 have HSI:Hid (zI9 77=some (sgC sw lf s (.slice A l.length c)).toList.length):=hQ9 zG
 have HS:=hQ9 hS
 have hlen:=zbs cm who at_ sw lf s l hw ha hsw hlf hl
 have C0:=hQ9 (fun W hW=>je cm (show U64n cm from hc) W hW)
 have C1:=hQ9 (fun W hW=>xE who hw.1 hw.2 W hW)
 have C2:=hQ9 (fun W hW=>xE at_ ha.1 ha.2 W hW)
 have C3:=hQ9 (fun W hW h1=>zem sw lf s A c l hsw hlf hl hs hb W hW h1)
 have CJ:Hid (∀(A4:Option Addr) (W:World),Rd W W.heap.size A4 (strL [hexB cm,⟨(Lib.itoa who).toArray⟩,⟨(Lib.itoa at_).toArray⟩,⟨(sgT sw lf s l).toArray⟩])→Calls Tryz.prog 84 #[.slice A4 4 4] W fun e w'=>e=.returned (.string ⟨(stT cm who at_ sw lf s l).toArray⟩)∧Grew W w'):=hQ9 (fun A4 W hR=>by
  have:=kn A4 4 [hexB cm,⟨(Lib.itoa who).toArray⟩,⟨(Lib.itoa at_).toArray⟩,⟨(sgT sw lf s l).toArray⟩] (by simp) (by simp only [stT]at hlen;simp [bys,hexB]at hlen ⊢;omega) W hR
  simpa [bys,stT,hexB]using this)
 have HR:=hQ9 hr
 clear hS hc hw ha hlen hsw hlf hl hs hb hr
 generalize (⟨(stT cm who at_ sw lf s l).toArray⟩:ByteArray)=tj at *
 generalize hexB cm=t0 at *
 generalize (⟨(Lib.itoa who).toArray⟩:ByteArray)=t1 at *
 generalize (⟨(Lib.itoa at_).toArray⟩:ByteArray)=t2 at *
 generalize (⟨(sgT sw lf s l).toArray⟩:ByteArray)=t3 at *
 go_enter Tryz.func189,Tryz.ntmps189
 go_wp2_with fail
 generalize w.alloc (.cells (stC cm who at_ sw lf s (.slice A l.length c)) 157)=w1 at *
 have z1:=z0
 have G0:=hQ9 g0
 have HRR:=hQ9 (fun y (g:Grew w1 y)=>(HR.out.gr G0.out).gr g)
 have HC0:Hid (∀ y,Grew w1 y→y.cell? ⟨w.heap.size,0,none⟩=some (.int .u64 (cm:Nat))):=hQ9 (fun y g=>by simpa using (z1.grew g).cell 0 _ rfl)
 have HC1:Hid (∀ y,Grew w1 y→y.cell? ⟨w.heap.size,1,none⟩=some (.int .i64 who)):=hQ9 (fun y g=>by simpa using (z1.grew g).cell 1 _ rfl)
 have HC2:Hid (∀ y,Grew w1 y→y.cell? ⟨w.heap.size,2,none⟩=some (.int .i64 at_)):=hQ9 (fun y g=>by simpa using (z1.grew g).cell 2 _ rfl)
 have HCM:Hid (∀ y,Grew w1 y→y.rangeAt w.heap.size 3 (sgC sw lf s (.slice A l.length c)).toList):=hQ9 (fun y g=>xF (z1.grew g).cell)
 clear z0 z1 g0
 refine zv 14 (fun i=>match i with
  | 0=>fun v _=>v=.pointer (some ⟨w.heap.size,0,none⟩)
  | 1=>fun v _=>v=.int .u64 (cm:Nat)
  | 2=>fun v _=>v=.string t0
  | 3=>fun v _=>v=.pointer (some ⟨w.heap.size,1,none⟩)
  | 4=>fun v _=>v=.int .i64 who
  | 5=>fun v _=>v=.string t1
  | 6=>fun v _=>v=.pointer (some ⟨w.heap.size,2,none⟩)
  | 7=>fun v _=>v=.int .i64 at_
  | 8=>fun v _=>v=.string t2
  | 9=>fun v _=>v=.pointer (some ⟨w.heap.size,3,none⟩)
  | 10=>fun v _=>v=.agg (sgC sw lf s (.slice A l.length c))
  | 11=>fun v _=>v=.string t3
  | 12=>fun v w=>FourS w [t0,t1,t2,t3] v
  | 13=>fun v _=>v=.string tj
  | _=>fun _ _=>True) (by kernel_rfl) (by kernel_rfl) ?_ ?_ ?_
 ·intro i v x y h hg
  match i,h with
  | 0,h | 1,h | 2,h | 3,h | 4,h | 5,h | 6,h | 7,h | 8,h | 9,h | 10,h | 11,h | 13,h=>exact h
  | 12,h=>exact FourS.gr h hg
  | m+14,_=>trivial
 ·simp only [actOf,tk1,tk0,dr1,dr0,Act.put,si1,st1,st0,Nat.reduceAdd]
  refine⟨?_,?_,?_,?_,?_,?_,?_,?_,?_,?_,?_,?_,?_,?_,trivial⟩
  ·intro vs y hg hd
   dsimp only
   go_wp2_with fail
   exact⟨rfl,_,rfl,za _,rfl⟩
  ·intro vs y hg hd
   obtain⟨h0,_⟩:=hd
   replace h0:=h0 rfl
   dsimp only
   rw [show vs 0=_ from h0]
   have hc:=HC0.out y hg
   go_wp2_with fail
   exact⟨rfl,_,rfl,za _,rfl⟩
  ·intro vs y hg hd
   obtain⟨h1,_⟩:=hd
   replace h1:=h1 rfl
   dsimp only
   rw [show vs 1=_ from h1]
   go_wp2_with(go_at_call 85;refine(C0.out y (HS.out.grew (zb G0.out hg))).mono ?_;rintro e z ⟨rfl,gz⟩)
   exact⟨rfl,_,rfl,gz,rfl⟩
  ·intro vs y hg hd
   dsimp only
   go_wp2_with fail
   exact⟨rfl,_,rfl,za _,rfl⟩
  ·intro vs y hg hd
   obtain⟨h3,_⟩:=hd
   replace h3:=h3 rfl
   dsimp only
   rw [show vs 3=_ from h3]
   have hc:=HC1.out y hg
   go_wp2_with fail
   exact⟨rfl,_,rfl,za _,rfl⟩
  ·intro vs y hg hd
   obtain⟨h4,_⟩:=hd
   replace h4:=h4 rfl
   dsimp only
   rw [show vs 4=_ from h4]
   go_wp2_with(go_at_call 86;refine(C1.out y (HS.out.grew (zb G0.out hg))).mono ?_;rintro e z ⟨rfl,gz⟩)
   exact⟨rfl,_,rfl,gz,rfl⟩
  ·intro vs y hg hd
   dsimp only
   go_wp2_with fail
   exact⟨rfl,_,rfl,za _,rfl⟩
  ·intro vs y hg hd
   obtain⟨h6,_⟩:=hd
   replace h6:=h6 rfl
   dsimp only
   rw [show vs 6=_ from h6]
   have hc:=HC2.out y hg
   go_wp2_with fail
   exact⟨rfl,_,rfl,za _,rfl⟩
  ·intro vs y hg hd
   obtain⟨h7,_⟩:=hd
   replace h7:=h7 rfl
   dsimp only
   rw [show vs 7=_ from h7]
   go_wp2_with(go_at_call 86;refine(C2.out y (HS.out.grew (zb G0.out hg))).mono ?_;rintro e z ⟨rfl,gz⟩)
   exact⟨rfl,_,rfl,gz,rfl⟩
  ·intro vs y hg hd
   dsimp only
   go_wp2_with fail
   exact⟨rfl,_,rfl,za _,rfl⟩
  ·intro vs y hg hd
   obtain⟨h9,_⟩:=hd
   replace h9:=h9 rfl
   dsimp only
   rw [show vs 9=_ from h9]
   have hm:=HCM.out y hg
   go_wp2_with(with_reducible refine wpList_load_mid rfl 77 (.tmp 12) rfl w.heap.size 3 rfl (sgC sw lf s (.slice A l.length c)).toList _ hm hus rfl HSI.out ?_)
   exact⟨rfl,_,rfl,za _,rfl⟩
  ·intro vs y hg hd
   obtain⟨h10,_⟩:=hd
   replace h10:=h10 rfl
   dsimp only
   rw [show vs 10=_ from h10]
   go_wp2_with(go_at_call 87;refine(C3.out y (HS.out.grew (zb G0.out hg)) (HRR.out y hg)).mono ?_;rintro e z ⟨rfl,gz⟩)
   exact⟨rfl,_,rfl,gz,rfl⟩
  ·intro vs y hg hd
   obtain⟨h2,h5,h8,h11,_⟩:=hd
   replace h2:=h2 rfl
   replace h5:=h5 rfl
   replace h8:=h8 rfl
   replace h11:=h11 rfl
   dsimp only
   rw [show vs 2=_ from h2,show vs 5=_ from h5,show vs 8=_ from h8,show vs 11=_ from h11]
   go_wp2_with fail
   exact⟨rfl,_,rfl,ze (za _) _,⟨_,rfl,yD y _ _⟩⟩
  ·intro vs y hg hd
   obtain⟨h12,_⟩:=hd
   replace h12:=h12 rfl
   dsimp only
   obtain⟨A4,hv,r4⟩:=FourS.out h12
   rw [hv]
   go_wp2_with(go_at_call 84;refine(CJ.out A4 y r4).mono ?_;rintro e z ⟨rfl,gz⟩)
   exact⟨rfl,_,rfl,gz,rfl⟩
 ·intro vs y hg hJ
  have j0:vs 0=.pointer (some ⟨w.heap.size,0,none⟩):=hJ 0 (by decide)
  have j1:vs 1=.int .u64 (cm:Nat):=hJ 1 (by decide)
  have j2:vs 2=.string t0:=hJ 2 (by decide)
  have j3:vs 3=.pointer (some ⟨w.heap.size,1,none⟩):=hJ 3 (by decide)
  have j4:vs 4=.int .i64 who:=hJ 4 (by decide)
  have j5:vs 5=.string t1:=hJ 5 (by decide)
  have j6:vs 6=.pointer (some ⟨w.heap.size,2,none⟩):=hJ 6 (by decide)
  have j7:vs 7=.int .i64 at_:=hJ 7 (by decide)
  have j8:vs 8=.string t2:=hJ 8 (by decide)
  have j9:vs 9=.pointer (some ⟨w.heap.size,3,none⟩):=hJ 9 (by decide)
  have j10:vs 10=.agg (sgC sw lf s (.slice A l.length c)):=hJ 10 (by decide)
  have j11:vs 11=.string t3:=hJ 11 (by decide)
  have j13:vs 13=.string tj:=hJ 13 (by decide)
  have s15:=hJ 12 (by decide)
  clear hJ
  simp only [actOf,tk1,tk0,dr1,dr0,Act.put,si1,st1,st0,Nat.reduceAdd]
  rw [j13]
  clear j0 j1 j2 j3 j4 j5 j6 j7 j8 j9 j10 j11 s15 j13
  go_wp2_with fail
  go_ret
  exact⟨rfl,zb G0.out hg⟩
def akC (cm:Nat) (who sw lf:Int) (s:Nat→Nat) (pv:Value):Array Value:=#[.int .u64 (cm:Nat),.int .i64 who,.int .i64 sw,.int .i64 lf,u64V (s 0),u64V (s 1),u64V (s 2),u64V (s 3),u64V (s 4),u64V (s 5),u64V (s 6),u64V (s 7),u64V (s 8),u64V (s 9),u64V (s 10),u64V (s 11),u64V (s 12),u64V (s 13),u64V (s 14),u64V (s 15),u64V (s 16),u64V (s 17),pv]
theorem kt (cm:Nat) (who sw lf:Int) (s:Nat→Nat) (A:Option Addr) (n c:Nat):(akC cm who sw lf s (.slice A n c)).all (·.oneCell')=true:=by simp [akC,u64V,Value.oneCell']
theorem zJ:(Tryz.prog.info? 79).map (·.size)=some 23:=by kernel_rfl
theorem zaj (cm:Nat) (who sw lf:Int) (s:Nat→Nat) (A:Option Addr) (n c:Nat):Tryz.prog.built 79 [(0,.int .u64 (cm:Nat)),(1,.int .i64 who),(2,.agg (sgC sw lf s (.slice A n c)))]=some (akC cm who sw lf s (.slice A n c)):=by kernel_rfl
theorem x7 {w:World} {b:Nat} {cm:Nat} {who sw lf:Int} {s:Nat→Nat} {pv:Value} (h:w.rangeAt b 0 (akC cm who sw lf s pv).toList):w.rangeAt b 2 (sgC sw lf s pv).toList:=by
 have:w.rangeAt b (0+2) (sgC sw lf s pv).toList:=qa (m:=2) h (zai 2 rfl)
 rwa [Nat.zero_add]at this
theorem zkj (cm:Nat) (who sw lf:Int) (s:Nat→Nat) (A:Option Addr) (c:Nat) (l:List Nat) (hc:cm<18446744073709551616) (hw:in64 who) (w:World) (hS:Std w) :
 Calls Tryz.prog 99 #[.agg (akC cm who sw lf s (.slice A l.length c))] w fun e w'=>e=.returned (.agg (mkC who (akD cm who) sw lf s (.slice A l.length c)))∧Grew w w':=by
 have z0:=Ag.new w 79 (akC cm who sw lf s (.slice A l.length c))
 have g0:=ze (za w) (.cells (akC cm who sw lf s (.slice A l.length c)) 79)
 have hus:=Tryz.underlying77
 have HSI:Hid (zI9 77=some (sgC sw lf s (.slice A l.length c)).toList.length):=hQ9 zG
 have HS:=hQ9 hS
 have hum:=Tryz.underlying263
 have CD:=hQ9 (fun W hW=>kV cm who hc hw W hW)
 obtain⟨d,hd⟩:∃ d,akD cm who=d:=⟨_,rfl⟩
 rw [hd]at CD ⊢
 have HBU:=hQ9 (zep who d sw lf s A l.length c)
 have zm:Ag ((w.alloc (.cells (akC cm who sw lf s (.slice A l.length c)) 79)).alloc (.cells (zM23) 263)) (w.heap.size+1) (zM23:Array Value).toList:=by
  have:=Ag.new (w.alloc (.cells (akC cm who sw lf s (.slice A l.length c)) 79)) 263 (zM23)
  simpa using this
 have z1:=z0.grew (ze (za _) (.cells (zM23) 263))
 have g1:=ze g0 (.cells (zM23) 263)
 clear hd hS hc hw z0 g0
 go_enter Tryz.func99,Tryz.ntmps99
 go_wp2_with fail
 generalize (w.alloc (.cells (akC cm who sw lf s (.slice A l.length c)) 79)).alloc (.cells (zM23) 263)=w1 at *
 have G0:=hQ9 g1
 have HC0:Hid (∀ y,Grew w1 y→y.cell? ⟨w.heap.size,0,none⟩=some (.int .u64 (cm:Nat))):=hQ9 (fun y g=>by simpa using (z1.grew g).cell 0 _ rfl)
 have HC1:Hid (∀ y,Grew w1 y→y.cell? ⟨w.heap.size,1,none⟩=some (.int .i64 who)):=hQ9 (fun y g=>by simpa using (z1.grew g).cell 1 _ rfl)
 have HCM:Hid (∀ y,Grew w1 y→y.rangeAt w.heap.size 2 (sgC sw lf s (.slice A l.length c)).toList):=hQ9 (fun y g=>x7 (z1.grew g).cell)
 clear z1 g1
 refine zv 10 (fun ix9=>match ix9 with
  | 0=>fun v _=>v=.pointer (some ⟨w.heap.size,1,none⟩)
  | 1=>fun v _=>v=.int .i64 who
  | 2=>fun v _=>v=.pointer (some ⟨w.heap.size,0,none⟩)
  | 3=>fun v _=>v=.int .u64 (cm:Nat)
  | 4=>fun v _=>v=.pointer (some ⟨w.heap.size,1,none⟩)
  | 5=>fun v _=>v=.int .i64 who
  | 6=>fun v _=>v=.int .u64 (d:Nat)
  | 7=>fun v _=>v=.pointer (some ⟨w.heap.size,2,none⟩)
  | 8=>fun v _=>v=.agg (sgC sw lf s (.slice A l.length c))
  | 9=>fun v _=>v=.agg (mkC who d sw lf s (.slice A l.length c))
  | _=>fun _ _=>True) (by kernel_rfl) (by kernel_rfl) ?_ ?_ ?_
 ·intro i v x y h hg
  match i,h with
  | 0,h | 1,h | 2,h | 3,h | 4,h | 5,h | 6,h | 7,h | 8,h | 9,h=>exact h
  | m+10,_=>trivial
 ·simp only [actOf,tk1,tk0,dr1,dr0,Act.put,si1,st1,st0,Nat.reduceAdd]
  refine⟨?_,?_,?_,?_,?_,?_,?_,?_,?_,?_,trivial⟩
  ·intro vs y hg hd
   dsimp only
   go_wp2_with fail
   exact⟨rfl,_,rfl,za _,rfl⟩
  ·intro vs y hg hd
   obtain⟨h0,_⟩:=hd
   replace h0:=h0 rfl
   dsimp only
   rw [show vs 0=_ from h0]
   have hc:=HC1.out y hg
   go_wp2_with fail
   exact⟨rfl,_,rfl,za _,rfl⟩
  ·intro vs y hg hd
   dsimp only
   go_wp2_with fail
   exact⟨rfl,_,rfl,za _,rfl⟩
  ·intro vs y hg hd
   obtain⟨h2,_⟩:=hd
   replace h2:=h2 rfl
   dsimp only
   rw [show vs 2=_ from h2]
   have hc:=HC0.out y hg
   go_wp2_with fail
   exact⟨rfl,_,rfl,za _,rfl⟩
  ·intro vs y hg hd
   dsimp only
   go_wp2_with fail
   exact⟨rfl,_,rfl,za _,rfl⟩
  ·intro vs y hg hd
   obtain⟨h4,_⟩:=hd
   replace h4:=h4 rfl
   dsimp only
   rw [show vs 4=_ from h4]
   have hc:=HC1.out y hg
   go_wp2_with fail
   exact⟨rfl,_,rfl,za _,rfl⟩
  ·intro vs y hg hd
   obtain⟨h3,h5,_⟩:=hd
   replace h3:=h3 rfl
   replace h5:=h5 rfl
   dsimp only
   rw [show vs 3=_ from h3,show vs 5=_ from h5]
   go_wp2_with(go_at_call 38;refine(CD.out y (HS.out.grew (zb G0.out hg))).mono ?_;rintro e z ⟨rfl,gz⟩)
   exact⟨rfl,_,rfl,gz,rfl⟩
  ·intro vs y hg hd
   dsimp only
   go_wp2_with fail
   exact⟨rfl,_,rfl,za _,rfl⟩
  ·intro vs y hg hd
   obtain⟨h7,_⟩:=hd
   replace h7:=h7 rfl
   dsimp only
   rw [show vs 7=_ from h7]
   have hm:=HCM.out y hg
   go_wp2_with(with_reducible refine wpList_load_mid rfl 77 (.tmp 10) rfl w.heap.size 2 rfl (sgC sw lf s (.slice A l.length c)).toList _ hm hus rfl HSI.out ?_)
   exact⟨rfl,_,rfl,za _,rfl⟩
  ·intro vs y hg hd
   obtain⟨h1,h6,h8,_⟩:=hd
   replace h1:=h1 rfl
   replace h6:=h6 rfl
   replace h8:=h8 rfl
   dsimp only
   rw [show vs 1=_ from h1,show vs 6=_ from h6,show vs 8=_ from h8]
   refine zC rfl 263 #[(0,.tmp 4),(1,.tmp 9),(2,.tmp 11)] rfl _ (by simpa [Act.eval]using HBU.out) ?_
   go_wp2_with fail
   exact⟨rfl,_,rfl,za _,rfl⟩
 ·intro vs y hg hJ
  have j0:vs 0=.pointer (some ⟨w.heap.size,1,none⟩):=hJ 0 (by decide)
  have j1:vs 1=.int .i64 who:=hJ 1 (by decide)
  have j2:vs 2=.pointer (some ⟨w.heap.size,0,none⟩):=hJ 2 (by decide)
  have j3:vs 3=.int .u64 (cm:Nat):=hJ 3 (by decide)
  have j4:vs 4=.pointer (some ⟨w.heap.size,1,none⟩):=hJ 4 (by decide)
  have j5:vs 5=.int .i64 who:=hJ 5 (by decide)
  have j6:vs 6=.int .u64 (d:Nat):=hJ 6 (by decide)
  have j7:vs 7=.pointer (some ⟨w.heap.size,2,none⟩):=hJ 7 (by decide)
  have j8:vs 8=.agg (sgC sw lf s (.slice A l.length c)):=hJ 8 (by decide)
  have j9:vs 9=.agg (mkC who d sw lf s (.slice A l.length c)):=hJ 9 (by decide)
  clear hJ
  simp only [actOf,tk1,tk0,dr1,dr0,Act.put,si1,st1,st0,Nat.reduceAdd]
  rw [j9]
  clear j0 j1 j2 j3 j4 j5 j6 j7 j8 j9
  have z2:=zm.grew hg
  have HTH:Hid (y.there (w.heap.size+1) 0 (mkC who d sw lf s (.slice A l.length c)).size):=hQ9 (z2.thereN 23 rfl)
  have HSM:Hid (zI9 263=some (mkC who d sw lf s (.slice A l.length c)).size):=hQ9 kr
  have HON:=hQ9 (qx who d sw lf s A l.length c)
  have z3:=Ag.set (vs:=(mkC who d sw lf s (.slice A l.length c)).toList) z2 rfl
  have G3:=zh (o:=0) (b:=w.heap.size+1) (mkC who d sw lf s (.slice A l.length c)).toList (zb G0.out hg) (by omega)
  go_wp2_with(with_reducible refine wpList_store_mid rfl 263 (.tmp 2) (.tmp 12) rfl (w.heap.size+1) 0 (mkC who d sw lf s (.slice A l.length c)) rfl rfl HTH.out HSM.out HON.out ?_)
  exact bodyPost_ret (zL Tryz.results99 _ _ (w.heap.size+1) _ _ rfl z3 hum rfl kr) rfl ⟨rfl,G3⟩
def akT (cm:Nat) (who sw lf:Int) (s:Nat→Nat) (l:List Nat):List UInt8:=joinF [hexL cm,Lib.itoa who,sgT sw lf s l]
structure ThreeS (w:World) (l:List ByteArray) (v:Value):Prop where
 out:∃ A,v=.slice A 3 3∧Rd w w.heap.size A (strL l)
theorem ThreeS.gr {w w':World} {l:List ByteArray} {v:Value} (h:ThreeS w l v) (g:Grew w w'):ThreeS w' l v:=by
 obtain⟨A,h1,h2⟩:=h.out
 exact⟨A,h1,h2.gr g⟩
theorem zg0 (cm:Nat) (who sw lf:Int) (s:Nat→Nat) (l:List Nat) (hw:in64 who) (hsw:in64 sw) (hlf:in64 lf) (hl:l.length≤1000):(akT cm who sw lf s l).length≤1000000:=by
 unfold akT
 have h1:=ym hw.1 hw.2
 have h3:=ye cm
 have h4:=zgz sw lf s l hsw hlf hl
 have f1:=zP (Lib.itoa who)
 have f3:=zP (hexL cm)
 have f4:=zP (sgT sw lf s l)
 simp only [joinF,List.flatMap_cons,List.flatMap_nil,List.length_append,List.length_cons,List.length_nil]
 omega
theorem zkk (cm:Nat) (who sw lf:Int) (s:Nat→Nat) (A:Option Addr) (c:Nat) (l:List Nat) (hc:cm<18446744073709551616) (hw:in64 who) (hsw:in64 sw) (hlf:in64 lf) (hl:l.length≤1000) (hs:∀ k,k<18→s k<18446744073709551616) (hb:∀ n∈l,n<18446744073709551616) (w:World) (hS:Std w) (hr:Rd w w.heap.size A (u64L l)) :
 Calls Tryz.prog 32 #[.agg (akC cm who sw lf s (.slice A l.length c))] w fun e w'=>e=.returned (.string ⟨(akT cm who sw lf s l).toArray⟩)∧Grew w w':=by
 have z0:=Ag.new w 79 (akC cm who sw lf s (.slice A l.length c))
 have g0:=ze (za w) (.cells (akC cm who sw lf s (.slice A l.length c)) 79)
 have hus:=Tryz.underlying77
 have HSI:Hid (zI9 77=some (sgC sw lf s (.slice A l.length c)).toList.length):=hQ9 zG
 have HS:=hQ9 hS
 have hlen:=zg0 cm who sw lf s l hw hsw hlf hl
 have C0:=hQ9 (fun W hW=>je cm (show U64n cm from hc) W hW)
 have C1:=hQ9 (fun W hW=>xE who hw.1 hw.2 W hW)
 have C3:=hQ9 (fun W hW h1=>zem sw lf s A c l hsw hlf hl hs hb W hW h1)
 have CJ:Hid (∀(A4:Option Addr) (W:World),Rd W W.heap.size A4 (strL [hexB cm,⟨(Lib.itoa who).toArray⟩,⟨(sgT sw lf s l).toArray⟩])→Calls Tryz.prog 84 #[.slice A4 3 3] W fun e w'=>e=.returned (.string ⟨(akT cm who sw lf s l).toArray⟩)∧Grew W w'):=hQ9 (fun A4 W hR=>by
  have:=kn A4 3 [hexB cm,⟨(Lib.itoa who).toArray⟩,⟨(sgT sw lf s l).toArray⟩] (by simp) (by simp only [akT]at hlen;simp [bys,hexB]at hlen ⊢;omega) W hR
  simpa [bys,akT,hexB]using this)
 have HR:=hQ9 hr
 clear hS hc hw hlen hsw hlf hl hs hb hr
 generalize (⟨(akT cm who sw lf s l).toArray⟩:ByteArray)=tj at *
 generalize hexB cm=t0 at *
 generalize (⟨(Lib.itoa who).toArray⟩:ByteArray)=t1 at *
 generalize (⟨(sgT sw lf s l).toArray⟩:ByteArray)=t3 at *
 go_enter Tryz.func32,Tryz.ntmps32
 go_wp2_with fail
 generalize w.alloc (.cells (akC cm who sw lf s (.slice A l.length c)) 79)=w1 at *
 have z1:=z0
 have G0:=hQ9 g0
 have HRR:=hQ9 (fun y (g:Grew w1 y)=>(HR.out.gr G0.out).gr g)
 have HC0:Hid (∀ y,Grew w1 y→y.cell? ⟨w.heap.size,0,none⟩=some (.int .u64 (cm:Nat))):=hQ9 (fun y g=>by simpa using (z1.grew g).cell 0 _ rfl)
 have HC1:Hid (∀ y,Grew w1 y→y.cell? ⟨w.heap.size,1,none⟩=some (.int .i64 who)):=hQ9 (fun y g=>by simpa using (z1.grew g).cell 1 _ rfl)
 have HCM:Hid (∀ y,Grew w1 y→y.rangeAt w.heap.size 2 (sgC sw lf s (.slice A l.length c)).toList):=hQ9 (fun y g=>x7 (z1.grew g).cell)
 clear z0 z1 g0
 refine zv 11 (fun ix9=>match ix9 with
  | 0=>fun v _=>v=.pointer (some ⟨w.heap.size,0,none⟩)
  | 1=>fun v _=>v=.int .u64 (cm:Nat)
  | 2=>fun v _=>v=.string t0
  | 3=>fun v _=>v=.pointer (some ⟨w.heap.size,1,none⟩)
  | 4=>fun v _=>v=.int .i64 who
  | 5=>fun v _=>v=.string t1
  | 6=>fun v _=>v=.pointer (some ⟨w.heap.size,2,none⟩)
  | 7=>fun v _=>v=.agg (sgC sw lf s (.slice A l.length c))
  | 8=>fun v _=>v=.string t3
  | 9=>fun v w=>ThreeS w [t0,t1,t3] v
  | 10=>fun v _=>v=.string tj
  | _=>fun _ _=>True) (by kernel_rfl) (by kernel_rfl) ?_ ?_ ?_
 ·intro i v x y h hg
  match i,h with
  | 0,h | 1,h | 2,h | 3,h | 4,h | 5,h | 6,h | 7,h | 8,h | 10,h=>exact h
  | 9,h=>exact ThreeS.gr h hg
  | m+11,_=>trivial
 ·simp only [actOf,tk1,tk0,dr1,dr0,Act.put,si1,st1,st0,Nat.reduceAdd]
  refine⟨?_,?_,?_,?_,?_,?_,?_,?_,?_,?_,?_,trivial⟩
  ·intro vs y hg hd
   dsimp only
   go_wp2_with fail
   exact⟨rfl,_,rfl,za _,rfl⟩
  ·intro vs y hg hd
   obtain⟨h0,_⟩:=hd
   replace h0:=h0 rfl
   dsimp only
   rw [show vs 0=_ from h0]
   have hc:=HC0.out y hg
   go_wp2_with fail
   exact⟨rfl,_,rfl,za _,rfl⟩
  ·intro vs y hg hd
   obtain⟨h1,_⟩:=hd
   replace h1:=h1 rfl
   dsimp only
   rw [show vs 1=_ from h1]
   go_wp2_with(go_at_call 85;refine(C0.out y (HS.out.grew (zb G0.out hg))).mono ?_;rintro e z ⟨rfl,gz⟩)
   exact⟨rfl,_,rfl,gz,rfl⟩
  ·intro vs y hg hd
   dsimp only
   go_wp2_with fail
   exact⟨rfl,_,rfl,za _,rfl⟩
  ·intro vs y hg hd
   obtain⟨h3,_⟩:=hd
   replace h3:=h3 rfl
   dsimp only
   rw [show vs 3=_ from h3]
   have hc:=HC1.out y hg
   go_wp2_with fail
   exact⟨rfl,_,rfl,za _,rfl⟩
  ·intro vs y hg hd
   obtain⟨h4,_⟩:=hd
   replace h4:=h4 rfl
   dsimp only
   rw [show vs 4=_ from h4]
   go_wp2_with(go_at_call 86;refine(C1.out y (HS.out.grew (zb G0.out hg))).mono ?_;rintro e z ⟨rfl,gz⟩)
   exact⟨rfl,_,rfl,gz,rfl⟩
  ·intro vs y hg hd
   dsimp only
   go_wp2_with fail
   exact⟨rfl,_,rfl,za _,rfl⟩
  ·intro vs y hg hd
   obtain⟨h6,_⟩:=hd
   replace h6:=h6 rfl
   dsimp only
   rw [show vs 6=_ from h6]
   have hm:=HCM.out y hg
   go_wp2_with(with_reducible refine wpList_load_mid rfl 77 (.tmp 9) rfl w.heap.size 2 rfl (sgC sw lf s (.slice A l.length c)).toList _ hm hus rfl HSI.out ?_)
   exact⟨rfl,_,rfl,za _,rfl⟩
  ·intro vs y hg hd
   obtain⟨h7,_⟩:=hd
   replace h7:=h7 rfl
   dsimp only
   rw [show vs 7=_ from h7]
   go_wp2_with(go_at_call 87;refine(C3.out y (HS.out.grew (zb G0.out hg)) (HRR.out y hg)).mono ?_;rintro e z ⟨rfl,gz⟩)
   exact⟨rfl,_,rfl,gz,rfl⟩
  ·intro vs y hg hd
   obtain⟨h2,h5,h8,_⟩:=hd
   replace h2:=h2 rfl
   replace h5:=h5 rfl
   replace h8:=h8 rfl
   dsimp only
   rw [show vs 2=_ from h2,show vs 5=_ from h5,show vs 8=_ from h8]
   go_wp2_with fail
   exact⟨rfl,_,rfl,ze (za _) _,⟨_,rfl,yD y _ _⟩⟩
  ·intro vs y hg hd
   obtain⟨h9,_⟩:=hd
   replace h9:=h9 rfl
   dsimp only
   obtain⟨A4,hv,r4⟩:=ThreeS.out h9
   rw [hv]
   go_wp2_with(go_at_call 84;refine(CJ.out A4 y r4).mono ?_;rintro e z ⟨rfl,gz⟩)
   exact⟨rfl,_,rfl,gz,rfl⟩
 ·intro vs y hg hJ
  have j0:vs 0=.pointer (some ⟨w.heap.size,0,none⟩):=hJ 0 (by decide)
  have j1:vs 1=.int .u64 (cm:Nat):=hJ 1 (by decide)
  have j2:vs 2=.string t0:=hJ 2 (by decide)
  have j3:vs 3=.pointer (some ⟨w.heap.size,1,none⟩):=hJ 3 (by decide)
  have j4:vs 4=.int .i64 who:=hJ 4 (by decide)
  have j5:vs 5=.string t1:=hJ 5 (by decide)
  have j6:vs 6=.pointer (some ⟨w.heap.size,2,none⟩):=hJ 6 (by decide)
  have j7:vs 7=.agg (sgC sw lf s (.slice A l.length c)):=hJ 7 (by decide)
  have j8:vs 8=.string t3:=hJ 8 (by decide)
  have j10:vs 10=.string tj:=hJ 10 (by decide)
  have s12:=hJ 9 (by decide)
  clear hJ
  simp only [actOf,tk1,tk0,dr1,dr0,Act.put,si1,st1,st0,Nat.reduceAdd]
  rw [j10]
  clear j0 j1 j2 j3 j4 j5 j6 j7 j8 s12 j10
  go_wp2_with fail
  go_ret
  exact⟨rfl,zb G0.out hg⟩
theorem zer {z:Nat}:∀(L:List (List Value)),(∀ l∈L,l.length=z)→∀ k j (hk:k<L.length),j<z→L.flatten[k*z+j]?=L[k][j]?
 | [],_,k,_,hk,_=>absurd hk (by simp)
 | l::r,h,0,j,_,hj=>by
  have hl:=h l (by simp)
  simp only [List.flatten_cons,Nat.zero_mul,Nat.zero_add,List.getElem_cons_zero]
  exact List.getElem?_append_left (by omega)
 | l::r,h,k+1,j,hk,hj=>by
  have hl:=h l (by simp)
  have e:(k+1)*z+j=l.length+(k*z+j):=by rw [hl,Nat.add_mul];omega
  rw [List.flatten_cons,e,List.getElem?_append_right (by omega),Nat.add_sub_cancel_left]
  simpa using zer r (fun x hx=>h x (by simp [hx])) k j (by simpa using hk) hj
def RdC (w:World) (A:Option Addr) (z:Nat) (L:List (List Value)):Prop:=∀ k (h:k<L.length),∃ q,A=some ⟨q,0,none⟩∧q<w.heap.size∧w.rangeAt q (k*z) L[k]
theorem RdC.nil (w:World) (A:Option Addr) (z:Nat):RdC w A z []:=fun k h=>absurd h (by simp)
theorem RdC.kp {S:Nat→Prop} {w w':World} {A:Option Addr} {z:Nat} {L:List (List Value)} (h:RdC w A z L) (k:Kp S w w') (hs:∀ q,A=some ⟨q,0,none⟩→¬S q):RdC w' A z L:=fun i hi=>by
 obtain⟨q,e,hq,hr⟩:=h i hi
 exact⟨q,e,Nat.lt_of_lt_of_le hq k.size,fun j v hj=>by
  rw [←hr j v hj]
  exact World.cell?_of_block (k.block q hq (hs q e))⟩
theorem RdC.gr {w w':World} {A:Option Addr} {z:Nat} {L:List (List Value)} (h:RdC w A z L) (k:Grew w w'):RdC w' A z L:=h.kp (S:=fun _=>False) (zF k) (fun _ _ h=>h)
theorem RdC.take {w:World} {A:Option Addr} {z:Nat} {L:List (List Value)} (h:RdC w A z L) (n:Nat):RdC w A z (L.take n):=fun i hi=>by
 have hi':i<L.length:=by rw [List.length_take]at hi;omega
 obtain⟨q,e,hq,hr⟩:=h i hi'
 exact⟨q,e,hq,by rw [List.getElem_take];exact hr⟩
theorem zg1 {w:World} {base n z:Nat} {e:TypeId} {v:Value} {L:List (List Value)} (h:w.ownsRow base e z v n L.flatten) (hz:∀ l∈L,l.length=z) (hz0:0<z) (hn:L.length=n) :
 ∃ A c,v=.slice A n c∧RdC w A z L∧n≤c∧c≤maxLen∧∀ ad,A=some ad→base≤ad.block∧ad.block<w.heap.size:=by
 rcases h.2 with ⟨rfl,h0⟩ | ⟨g,cap,cur,rfl,hb,hh,h1,h2,h3,h4⟩
 ·subst h0
  obtain rfl:=List.eq_nil_of_length_eq_zero hn
  exact⟨none,0,rfl,RdC.nil _ _ _,zN9 _,Nat.zero_le _,fun ad h=>by cases h⟩
 ·have hlt:g<w.heap.size:=(Array.getElem?_eq_some_iff.1 hh).1
  refine⟨some ⟨g,0,none⟩,cap,rfl,fun k hk=>⟨g,rfl,hlt,fun j u hj=>?_⟩,h1,h2,fun ad h=>by cases h;exact⟨hb,hlt⟩⟩
  have hjz:j<z:=by have:=(List.getElem?_eq_some_iff.1 hj).1;rw [hz L[k] (List.getElem_mem hk)]at this;exact this
  have hf:=zer L hz k j hk hjz
  rw [hj]at hf
  have:=h.cells (g:=g) rfl (k*z+j) u hf
  rwa [show(⟨g,0,none⟩:Addr).add (k*z+j)=⟨g,k*z+j,none⟩ from by unfold Addr.add;split<;>simp_all]at this
structure SP where
 cm:Nat
 who:Int
 at_:Int
 sw:Int
 lf:Int
 s:Nat→Nat
 A:Option Addr
 c:Nat
 l:List Nat
def SP.C (S:SP):Array Value:=stC S.cm S.who S.at_ S.sw S.lf S.s (.slice S.A S.l.length S.c)
structure SP.ok (S:SP):Prop where
 cm:S.cm<18446744073709551616
 who:in64 S.who
 at_:in64 S.at_
 sw:in64 S.sw
 lf:in64 S.lf
 s:∀ k,k<18→S.s k<18446744073709551616
 len:S.l.length≤1000
 l:∀ x∈S.l,x<18446744073709551616
def SP.at (S:SP) (w:World):Prop:=Rd w w.heap.size S.A (u64L S.l)
theorem SP.at.gr {S:SP} {w w':World} (h:S.at w) (g:Grew w w'):S.at w':=Rd.gr h g
def spL (L:List SP):List (List Value):=L.map fun S=>S.C.toList
theorem spL_z (L:List SP):∀ l∈spL L,l.length=24:=fun l hl=>by
 obtain⟨S,_,rfl⟩:=List.mem_map.1 hl
 rfl
theorem zbt (L:List SP):(spL L).length=L.length:=by simp [spL]
theorem zim (L M:List SP):spL (L++M)=spL L++spL M:=by simp [spL]
theorem zng (L:List SP) (n:Nat):spL (L.take n)=(spL L).take n:=by simp [spL]
theorem SP.one (S:SP):S.C.all (·.oneCell')=true:=jf _ _ _ _ _ _ _ _ _
theorem SP.one' (S:SP):∀ u∈S.C.toList,u.oneCell'=true:=fun u hu=>by
 have:=S.one
 rw [Array.all_eq_true]at this
 obtain⟨i,hi,rfl⟩:=List.getElem_of_mem hu
 simpa using this i (by simpa using hi)
structure Sps (w:World) (A:Option Addr) (L:List SP):Prop where
 rd:RdC w A 24 (spL L)
 ok:∀ S∈L,S.ok
 at_:∀ S∈L,S.at w
theorem Sps.gr {w w':World} {A:Option Addr} {L:List SP} (h:Sps w A L) (g:Grew w w'):Sps w' A L:=⟨h.rd.gr g,h.ok,fun S hS=>(h.at_ S hS).gr g⟩
theorem Sps.take {w:World} {A:Option Addr} {L:List SP} (h:Sps w A L) (n:Nat):Sps w A (L.take n) :=
 ⟨by rw [zng];exact h.rd.take n,fun S hS=>h.ok S (List.mem_of_mem_take hS),fun S hS=>h.at_ S (List.mem_of_mem_take hS)⟩
theorem Sps.get {w:World} {A:Option Addr} {L:List SP} (h:Sps w A L) (k:Nat) (hk:k<L.length):∃ q,A=some ⟨q,0,none⟩∧q<w.heap.size∧w.rangeAt q (k*24) L[k].C.toList:=by
 obtain⟨q,e,hq,hr⟩:=h.rd k (by rw [zbt];exact hk)
 exact⟨q,e,hq,by simpa [spL]using hr⟩
theorem yT (W:World) (t:TypeId) (z cs:Array Value) (h:cs.size=z.size):∃ W',(W.alloc (.cells z t)).setCells W.heap.size 0 cs.toList=W'∧(W.alloc (.cells z t)).there W.heap.size 0 cs.size∧Grew W W'∧Ag W' W.heap.size cs.toList :=
 ⟨_,rfl,by rw [h];exact(Ag.new W t z).thereN z.size (by simp),zh (o:=0) (b:=W.heap.size) cs.toList (ze (za W) _) (zN9 _),Ag.set (vs:=cs.toList) (Ag.new W t z) (by simp [h])⟩
end Go.Proofs.YtkpnheenacchhaaGreatDoor
