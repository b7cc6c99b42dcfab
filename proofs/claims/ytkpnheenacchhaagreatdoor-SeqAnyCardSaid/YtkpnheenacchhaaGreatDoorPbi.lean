/- key.parseUpTo; key.Parse of a signature's words. -/
import Derived.Test.YtkpnheenacchhaaGreatDoorPzz
import Derived.Test.YtkpnheenacchhaaGreatDoorPbg
import Derived.Test.YtkpnheenacchhaaGreatDoorPbh
import Derived.Test.YtkpnheenacchhaaGreatDoorPba
import Derived.Test.YtkpnheenacchhaaGreatDoorPbd
import Derived.Test.YtkpnheenacchhaaGreatDoorPag
import Derived.Test.YtkpnheenacchhaaGreatDoorPaj
import Derived.Test.YtkpnheenacchhaaGreatDoorPan
set_option maxHeartbeats 2000000
set_option maxRecDepth 100000
set_option linter.unusedSimpArgs false
set_option linter.unusedVariables false
namespace Go.Proofs.YtkpnheenacchhaaGreatDoor
open Go.RowKit
def uptoB (s:List UInt8) (m:Int):Bool:=decide ((pnum s).2=0∧0≤(pnum s).1∧(pnum s).1≤m)
theorem qy (s:ByteArray) (hs:s.size≤1048576) (m:Int) (w:World) (hS:Std w) :
 Calls Tryz.prog 152 #[.string s,.int .i64 m] w fun e w'=>e=.returned (.tuple #[.int .i64 (pnum s.data.toList).1,.bool (uptoB s.data.toList m)])∧Grew w w':=by
 have CP:=hQ9 (qK s (by omega) w hS)
 unfold uptoB
 obtain⟨v,ev,hp⟩:∃ v ev,pnum s.data.toList=(v,ev):=⟨_,_,rfl⟩
 rw [hp]at CP ⊢
 dsimp only at CP ⊢
 clear hp hS
 by_cases h1:ev=0
 ·have e1:(ev==0)=true:=by simpa using h1
  by_cases h2:0≤v
  ·by_cases h3:v≤m
   ·rw [decide_eq_true ⟨h1,h2,h3⟩]
    clear h1
    go_enter Tryz.func152,Tryz.ntmps152
    go_wp2_with(go_at_call 81;refine(CP.out).mono ?_;rintro e w1 ⟨rfl,g1⟩)
    go_ret2
    exact⟨rfl,g1⟩
   ·rw [zF9 (fun h=>h3 h.2.2)]
    have d3:decide (v≤m)=false:=zF9 h3
    clear h1 h3
    go_enter Tryz.func152,Tryz.ntmps152
    go_wp2_with(go_at_call 81;refine(CP.out).mono ?_;rintro e w1 ⟨rfl,g1⟩)
    go_ret2
    exact⟨rfl,g1⟩
  ·rw [zF9 (fun h=>h2 h.2.1)]
   clear h1
   go_enter Tryz.func152,Tryz.ntmps152
   go_wp2_with(go_at_call 81;refine(CP.out).mono ?_;rintro e w1 ⟨rfl,g1⟩)
   go_ret2
   exact⟨rfl,g1⟩
 ·have e1:(ev==0)=false:=by simpa using h1
  rw [zF9 (fun h=>h1 h.1)]
  clear h1
  go_enter Tryz.func152,Tryz.ntmps152
  go_wp2_with(go_at_call 81;refine(CP.out).mono ?_;rintro e w1 ⟨rfl,g1⟩)
  go_ret2
  exact⟨rfl,g1⟩
theorem zfy:∀ x:Fin 16,hexDig x.val≠44:=by decide
theorem zkl (n:Nat):∀ c∈hexL n,c≠44:=by
 intro c hc
 obtain⟨j,_,rfl⟩:=List.mem_map.1 hc
 exact zfy ⟨n / 16^(15-j)%16,Nat.mod_lt _ (by decide)⟩
theorem za9 (l:List Nat) (hb:∀ n∈l,n<18446744073709551616):pdigs (digs l)=some l:=by
 cases l with
 | nil=>exact if_pos rfl
 | cons a l =>
  have hs:splitC (digs (a::l))=(a::l).map hexL:=zdk _ (by simp) (fun x hx=>by
   obtain⟨n,_,rfl⟩:=List.mem_map.1 hx
   exact zkl n)
  have hne:digs (a::l)≠[]:=by
   intro h
   rw [h]at hs
   have h1:=congrArg List.length hs
   have h2:([]:List UInt8)=hexL a:=by
    have:=congrArg List.head? hs
    simpa [splitC]using this
   have:=congrArg List.length h2
   rw [ye]at this
   simp at this
  rw [za7 hne (by
   rw [hs]
   intro x hx
   obtain⟨n,hn,rfl⟩:=List.mem_map.1 hx
   rw [kS n (hb n hn)];exact fun h=>by cases h),hs]
  congr 1
  unfold valsD
  rw [List.map_map]
  conv=>rhs;rw [←List.map_id (a::l)]
  apply List.map_congr_left
  intro n hn
  simp [kS n (hb n hn)]
theorem znh {n:Nat} (h:U64n n):U64 (n:Int):=by unfold U64n at h;unfold U64;omega
theorem zkm (l:List Nat) (n:Nat) (h:l≠[]):digs (l++[n])=digs l++44::hexL n:=by
 unfold digs
 cases l with
 | nil=>exact absurd rfl h
 | cons x l =>
  simp only [List.cons_append,List.map_cons]
  rw [xL,xL]
  simp
theorem zes (l:List Nat) (k:Nat)  : (digs (l.take k)).length≤l.length*17:=by
 have h1:=xc (l.take k) 
 have h2:(l.take k).length≤l.length:=by rw [List.length_take];omega
 have h3:(l.take k).length*17≤l.length*17:=Nat.mul_le_mul_right 17 h2
 omega
theorem zcp (A:Option Addr) (c:Nat) (l:List Nat) (hl:l.length≤1048576) (hp:∀ x∈l,U64n x) (w:World) (hr:Rd w w.heap.size A (u64L l)) :
 Calls Tryz.prog 158 #[.slice A l.length c] w fun e w'=>e=.returned (.string ⟨(digs l).toArray⟩)∧Grew w w':=by
 have HPP:=hQ9 hp
 clear hp
 go_enter Tryz.func158,Tryz.ntmps158
 go_wp2_with fail
 go_loopw [3,4] (fun sv iv wr=>∃(k:Nat) (t:List UInt8),k≤l.length∧iv=.int .i64 k∧sv=.string ⟨t.toArray⟩∧Hid (t=digs (l.take k))∧Grew w wr) (fun _ iv _=>l.length-(intOf iv).toNat)
 case atStart=>exact⟨0,[],Nat.zero_le _,rfl,rfl,hQ9 rfl,za w⟩
 case round =>
  obtain⟨k,t,hk,rfl,rfl,HT,hg⟩:=hrel
  by_cases hlt:k<l.length
  ·obtain⟨ad,rfl,hbl,hc0⟩:=yv (hr.below hg) k hlt
   have hk0:(0:Int)≤(k:Int):=by omega
   have hk1:(k:Int)<(l.length:Int):=by omega
   have e1:IntKind.i64.wrap ((k:Int)+1)=((k+1:Nat):Int):=by rw [IntWalk.i64_in _ (by omega)];omega
   have HK:=hQ9 hlt
   have htl:t.length≤22020096:=by
    have:=zes l k
    rw [HT.out];omega
   have HN:Hid (l.take (k+1)=l.take k++[l[k]]):=hQ9 (List.take_succ_eq_append_getElem hlt)
   have hpx:=HPP.out l[k] (List.getElem_mem hlt)
   have cR:=fun W=>jp (l[k]:Int) (znh hpx) W
   have hil:=zej l[k]
   generalize l[k]=x at *
   have CR:=hQ9 cR
   clear cR hpx
   by_cases hz:k=0
   ·have hkn:¬(0:Int)<(k:Int):=by omega
    have happ:=xX t (hexL x)
    have HR:Hid (t++hexL x=digs (l.take (k+1))):=hQ9 (by rw [HN.out,HT.out,hz];rfl)
    clear hz
    go_wp2_with(first | (go_at_call 94;refine(CR.out _).mono ?_;rintro e w3 ⟨rfl,hg3⟩))
    go_roundw
    case rel=>exact⟨k+1,_,by have:=HK.out;omega,by go_num,rfl,HR,zb hg hg3⟩
    case measure=>have h9:=HK.out;simp [intOf];omega
   ·have hkp:(0:Int)<(k:Int):=by omega
    have hne:l.take k≠[]:=by
     intro e
     have h9:(l.take k).length=k:=by rw [List.length_take];omega
     rw [e]at h9
     exact hz h9.symm
    have happ1:=xX t [44]
    have happ:=xX (t++[44]) (hexL x)
    have HR:Hid ((t++[44])++hexL x=digs (l.take (k+1))):=hQ9 (by
     rw [HN.out,HT.out,zkm _ _ hne]
     exact List.append_assoc _ _ _)
    clear hne
    have htl2:(t++[44]).length≤22020097:=by rw [List.length_append];simp;omega
    go_wp2_with(first | (go_at_call 94;refine(CR.out _).mono ?_;rintro e w3 ⟨rfl,hg3⟩))
    go_roundw
    case rel=>exact⟨k+1,_,by have:=HK.out;omega,by go_num,rfl,hQ9 ((List.append_assoc _ _ _).symm.trans HR.out),zb hg hg3⟩
    case measure=>have h9:=HK.out;simp [intOf];omega
  ·obtain rfl:k=l.length:=by omega
   rw [List.take_length]at HT
   go_wp2_with fail
   go_ret
   exact⟨by rw [HT.out];rfl,hg⟩
theorem sg_at {w:World} {b:Nat} {who leaf:Int} {s:Nat→Nat} {pv:Value} (h:Ag w b (sgC who leaf s pv).toList) (k:Nat) (hk:k<18):w.cell? ⟨b,2+k,none⟩=some (.int .u64 (s k:Nat)):=xZ h k (u64V (s k)) (by
 rw [Array.getElem?_toList]
 exact yx s k hk)
theorem zkn (s:Nat→Nat) (k:Nat) (h:k<18):(oneL s).take (k+1)=(oneL s).take k++[s k]:=by
 rw [List.take_succ_eq_append_getElem (by rw [zW];exact h)]
 simp [oneL]
theorem zfz (who leaf:Int) (s:Nat→Nat) (A:Option Addr) (c:Nat) (l:List Nat) (hw:in64 who) (hlf:in64 leaf) (hl:l.length≤1000) (hs:∀ k,k<18→s k<18446744073709551616) (hb:∀ n∈l,n<18446744073709551616) (w:World) (hr:Rd w w.heap.size A (u64L l)) :
 Calls Tryz.prog 96 #[.agg (sgC who leaf s (.slice A l.length c))] w fun e w'=>e=.returned (.string ⟨(sgT who leaf s l).toArray⟩)∧Grew w w':=by
 obtain⟨i0,hi,hz0,hz1,hz2⟩:=info_parts infoU
 have z0:=Ag.new w 68 (sgC who leaf s (.slice A l.length c))
 have G0:=ze (za w) (.cells (sgC who leaf s (.slice A l.length c)) 68)
 have R3:=hQ9 (fun y (g:Grew (w.alloc (.cells (sgC who leaf s (.slice A l.length c)) 68)) y)=>(hr.gr G0).gr g)
 have C0:=hQ9 (fun W=>xx who hw.1 hw.2 W)
 have C1:=hQ9 (fun W=>xx leaf hlf.1 hlf.2 W)
 have C2:=hQ9 (fun A5 c5 W hR=>zcp A5 c5 (oneL s) (by rw [zW];omega) (fun x hx=>by
  obtain⟨k,hk,rfl⟩:=List.mem_map.1 hx
  exact hs k (List.mem_range.1 hk)) W hR)
 rw [zW]at C2
 have C3:=hQ9 (fun W hR=>zcp A c l (by omega) hb W hR)
 have hlen:(joinF [Lib.itoa who,Lib.itoa leaf,digs (oneL s),digs l]).length≤100000000:=by
  have h1:=ym hw.1 hw.2
  have h2:=ym hlf.1 hlf.2
  have h3:=xc (oneL s)
  rw [zW]at h3
  have h4:=xc l
  have f1:=zP (Lib.itoa who)
  have f2:=zP (Lib.itoa leaf)
  have f3:=zP (digs (oneL s))
  have f4:=zP (digs l)
  simp only [joinF,List.flatMap_cons,List.flatMap_nil,List.length_append,List.length_cons,List.length_nil]
  omega
 have CJ:Hid (∀(A4:Option Addr) (W:World),Rd W W.heap.size A4 (strL [⟨(Lib.itoa who).toArray⟩,⟨(Lib.itoa leaf).toArray⟩,⟨(digs (oneL s)).toArray⟩,⟨(digs l).toArray⟩])→Calls Tryz.prog 93 #[.slice A4 4 4] W fun e w'=>e=.returned (.string ⟨(sgT who leaf s l).toArray⟩)∧Grew W w'):=hQ9 (fun A4 W hR=>by
  have:=kB A4 4 [⟨(Lib.itoa who).toArray⟩,⟨(Lib.itoa leaf).toArray⟩,⟨(digs (oneL s)).toArray⟩,⟨(digs l).toArray⟩] (by simp) (by simpa [bys]using hlen) W hR
  simpa [bys,sgT]using this)
 clear hr hw hlf hs hb hlen
 generalize (⟨(sgT who leaf s l).toArray⟩:ByteArray)=tj at *
 replace C0:Hid (∀ W,Calls Tryz.prog 95 #[.int .i64 who] W fun e w'=>e=.returned (.string ⟨(Lib.itoa who).toArray⟩)∧Grew W w'):=hQ9 (fun W=>C0.out W)
 replace C1:Hid (∀ W,Calls Tryz.prog 95 #[.int .i64 leaf] W fun e w'=>e=.returned (.string ⟨(Lib.itoa leaf).toArray⟩)∧Grew W w'):=hQ9 (fun W=>C1.out W)
 generalize (⟨(Lib.itoa who).toArray⟩:ByteArray)=t0 at *
 generalize (⟨(Lib.itoa leaf).toArray⟩:ByteArray)=t1 at *
 generalize (⟨(digs (oneL s)).toArray⟩:ByteArray)=t2 at *
 generalize (⟨(digs l).toArray⟩:ByteArray)=t3 at *
 go_enter Tryz.func96,Tryz.ntmps96
 go_wp2_with fail
 generalize w.alloc (.cells (sgC who leaf s (.slice A l.length c)) 68)=w1 at *
 have HC0:Hid (∀ y,Grew w1 y→y.cell? ⟨w.heap.size,0,none⟩=some (.int .i64 who)):=hQ9 (fun y g=>by simpa using (z0.grew g).cell 0 _ rfl)
 have HC1:Hid (∀ y,Grew w1 y→y.cell? ⟨w.heap.size,1,none⟩=some (.int .i64 leaf)):=hQ9 (fun y g=>by simpa using (z0.grew g).cell 1 _ rfl)
 have HC20:Hid (∀ y,Grew w1 y→y.cell? ⟨w.heap.size,20,none⟩=some (.slice A l.length c)):=hQ9 (fun y g=>by simpa using (z0.grew g).cell 20 _ rfl)
 have HCK:Hid (∀ y,Grew w1 y→∀ k,k<18→y.cell? ⟨w.heap.size,2+k,none⟩=some (.int .u64 (s k:Nat))):=hQ9 (fun y g k h=>sg_at (z0.grew g) k h)
 clear z0
 go_loopw [3,4] (fun dv iv wr=>∃(k:Nat) (v:Value),v=dv∧k≤18∧iv=.int .i64 k∧wr.ownsRow w1.heap.size 65 1 v k (u64L ((oneL s).take k))∧Grew w1 wr) (fun _ iv _=>18-(intOf iv).toNat)
 case atStart=>exact⟨0,_,rfl,Nat.zero_le _,rfl,World.ownsRow_nil _ _ _ _,za _⟩
 case round =>
  obtain⟨k,v,hv,hk,rfl,hown,gw⟩:=hrel
  subst hv
  have hgz:=gw.size
  by_cases hlt:k<18
  ·have hk0:(0:Int)≤(k:Int):=by omega
   have hk1:(k:Int)<18:=by omega
   have e1:IntKind.i64.wrap ((k:Int)+1)=((k+1:Nat):Int):=by rw [IntWalk.i64_in _ (by omega)];omega
   have hc:=HCK.out wr gw k hlt
   have HT:Hid (u64L ((oneL s).take (k+1))=u64L ((oneL s).take k)++[.int .u64 (s k:Nat)]):=hQ9 (by rw [zkn s k hlt];simp [u64L])
   have HGP:Hid (∀ w6,(wr.alloc (.cells #[.int .u64 (s k:Nat)] 65)).grownBy w6 (Value.ownBlock v)→Grew w1 w6):=hQ9 (fun w6 h6=>yi gw h6 (zu hown))
   generalize s k=d at *
   go_wp2_with(at_builtin;refine zx rfl (.tmp 9) (.tmp 14) 62 rfl w1.heap.size 65 i0 (.int .u64 0) 8 Tryz.underlying62 hi hz0 hz1 hz2 rfl v k _ rfl (hown.alloc _) (wr.heap.size+1) (some ⟨wr.heap.size,0,none⟩) 1 1 [.int .u64 (d:Nat)] rfl rfl (yb wr 65 #[.int .u64 (d:Nat)] (0,0)) (yG rfl) (by unfold maxLen;omega) (by omega) (by simp;omega) ?_;intro v6 w6 hown6 hgrow6 _;have hg6:=HGP.out w6 hgrow6)
   go_roundw
   case rel=>exact⟨k+1,_,rfl,by omega,by go_num,by rw [HT.out];exact hown6,hg6⟩
   case measure=>simp [intOf];omega
  ·obtain rfl:k=18:=by omega
   rw [show(oneL s).take 18=oneL s from List.take_of_length_le (by rw [zW];omega)]at hown
   obtain⟨A5,c5,rfl,-,-,r5⟩:=zU hown
   replace C2:=hQ9 (C2.out A5 c5)
   have R2:=hQ9 r5
   replace HC0:Hid (∀ y,Grew wr y→_):=hQ9 (fun y g=>HC0.out y (zb gw g))
   replace HC1:Hid (∀ y,Grew wr y→_):=hQ9 (fun y g=>HC1.out y (zb gw g))
   replace HC20:Hid (∀ y,Grew wr y→_):=hQ9 (fun y g=>HC20.out y (zb gw g))
   replace R3:Hid (∀ y,Grew wr y→_):=hQ9 (fun y g=>R3.out y (zb gw g))
   clear HCK hown r5 hlt hk
   go_wp2_with fail
   refine zv 13 (fun i=>match i with
    | 0=>fun v _=>v=.pointer (some ⟨w.heap.size,0,none⟩)
    | 1=>fun v _=>v=.int .i64 who
    | 2=>fun v _=>v=.string t0
    | 3=>fun v _=>v=.pointer (some ⟨w.heap.size,1,none⟩)
    | 4=>fun v _=>v=.int .i64 leaf
    | 5=>fun v _=>v=.string t1
    | 6=>fun v _=>v=.slice A5 18 c5
    | 7=>fun v _=>v=.string t2
    | 8=>fun v _=>v=.pointer (some ⟨w.heap.size,20,none⟩)
    | 9=>fun v _=>v=.slice A l.length c
    | 10=>fun v _=>v=.string t3
    | 11=>fun v w=>FourS w [t0,t1,t2,t3] v
    | 12=>fun v _=>v=.string tj
    | _=>fun _ _=>True) (by kernel_rfl) (by kernel_rfl) ?_ ?_ ?_
   ·intro i v x y h hg
    match i,h with
    | 0,h | 1,h | 2,h | 3,h | 4,h | 5,h | 6,h | 7,h | 8,h | 9,h | 10,h | 12,h=>exact h
    | 11,h=>exact FourS.gr h hg
    | m+13,_=>trivial
   ·simp only [actOf,tk1,tk0,dr1,dr0,Act.put,si1,st1,st0,Nat.reduceAdd]
    refine⟨?_,?_,?_,?_,?_,?_,?_,?_,?_,?_,?_,?_,?_,trivial⟩
    ·intro vs y hg hd
     dsimp only
     go_wp2_with fail
     exact⟨rfl,_,rfl,za _,rfl⟩
    ·intro vs y hg hd
     obtain⟨h0,_⟩:=hd
     replace h0:=h0 rfl
     dsimp only
     rw [show vs 0=_ from h0]
     have hc:=HC0.out y hg
     go_wp2_with fail
     exact⟨rfl,_,rfl,za _,rfl⟩
    ·intro vs y hg hd
     obtain⟨h1,_⟩:=hd
     replace h1:=h1 rfl
     dsimp only
     rw [show vs 1=_ from h1]
     go_wp2_with(go_at_call 95;refine(C0.out y).mono ?_;rintro e z ⟨rfl,gz⟩)
     exact⟨rfl,_,rfl,gz,rfl⟩
    ·intro vs y hg hd
     dsimp only
     go_wp2_with fail
     exact⟨rfl,_,rfl,za _,rfl⟩
    ·intro vs y hg hd
     obtain⟨h3,_⟩:=hd
     replace h3:=h3 rfl
     dsimp only
     rw [show vs 3=_ from h3]
     have hc:=HC1.out y hg
     go_wp2_with fail
     exact⟨rfl,_,rfl,za _,rfl⟩
    ·intro vs y hg hd
     obtain⟨h4,_⟩:=hd
     replace h4:=h4 rfl
     dsimp only
     rw [show vs 4=_ from h4]
     go_wp2_with(go_at_call 95;refine(C1.out y).mono ?_;rintro e z ⟨rfl,gz⟩)
     exact⟨rfl,_,rfl,gz,rfl⟩
    ·intro vs y hg hd
     dsimp only
     go_wp2_with fail
     exact⟨rfl,_,rfl,za _,rfl⟩
    ·intro vs y hg hd
     obtain⟨h6,_⟩:=hd
     replace h6:=h6 rfl
     dsimp only
     rw [show vs 6=_ from h6]
     go_wp2_with(go_at_call 158;refine(C2.out y (R2.out.gr hg)).mono ?_;rintro e z ⟨rfl,gz⟩)
     exact⟨rfl,_,rfl,gz,rfl⟩
    ·intro vs y hg hd
     dsimp only
     go_wp2_with fail
     exact⟨rfl,_,rfl,za _,rfl⟩
    ·intro vs y hg hd
     obtain⟨h8,_⟩:=hd
     replace h8:=h8 rfl
     dsimp only
     rw [show vs 8=_ from h8]
     have hc:=HC20.out y hg
     go_wp2_with fail
     exact⟨rfl,_,rfl,za _,rfl⟩
    ·intro vs y hg hd
     obtain⟨h9,_⟩:=hd
     replace h9:=h9 rfl
     dsimp only
     rw [show vs 9=_ from h9]
     go_wp2_with(go_at_call 158;refine(C3.out y (R3.out y hg)).mono ?_;rintro e z ⟨rfl,gz⟩)
     exact⟨rfl,_,rfl,gz,rfl⟩
    ·intro vs y hg hd
     obtain⟨h2,h5,h7,h10,_⟩:=hd
     replace h2:=h2 rfl
     replace h5:=h5 rfl
     replace h7:=h7 rfl
     replace h10:=h10 rfl
     dsimp only
     rw [show vs 2=_ from h2,show vs 5=_ from h5,show vs 7=_ from h7,show vs 10=_ from h10]
     go_wp2_with fail
     exact⟨rfl,_,rfl,ze (za _) _,⟨_,rfl,yD y _ _⟩⟩
    ·intro vs y hg hd
     obtain⟨h11,_⟩:=hd
     replace h11:=h11 rfl
     dsimp only
     obtain⟨A4,hv,r4⟩:=FourS.out h11
     rw [hv]
     go_wp2_with(go_at_call 93;refine(CJ.out A4 y r4).mono ?_;rintro e z ⟨rfl,gz⟩)
     exact⟨rfl,_,rfl,gz,rfl⟩
   ·intro vs y hg hJ
    have j0:vs 0=.pointer (some ⟨w.heap.size,0,none⟩):=hJ 0 (by decide)
    have j1:vs 1=.int .i64 who:=hJ 1 (by decide)
    have j2:vs 2=.string t0:=hJ 2 (by decide)
    have j3:vs 3=.pointer (some ⟨w.heap.size,1,none⟩):=hJ 3 (by decide)
    have j4:vs 4=.int .i64 leaf:=hJ 4 (by decide)
    have j5:vs 5=.string t1:=hJ 5 (by decide)
    have j6:vs 6=.slice A5 18 c5:=hJ 6 (by decide)
    have j7:vs 7=.string t2:=hJ 7 (by decide)
    have j8:vs 8=.pointer (some ⟨w.heap.size,20,none⟩):=hJ 8 (by decide)
    have j9:vs 9=.slice A l.length c:=hJ 9 (by decide)
    have j10:vs 10=.string t3:=hJ 10 (by decide)
    have j12:vs 12=.string tj:=hJ 12 (by decide)
    have s27:=hJ 11 (by decide)
    clear hJ
    simp only [actOf,tk1,tk0,dr1,dr0,Act.put,si1,st1,st0,Nat.reduceAdd]
    rw [j12]
    clear j0 j1 j2 j3 j4 j5 j6 j7 j8 j9 j10 j12
    go_wp2_with fail
    go_ret
    exact⟨rfl,zb G0 (zb gw hg)⟩
theorem zf0 (cm:Nat) (who at_:Int) (hc:cm<18446744073709551616) (hw:in64 who) (ha:in64 at_) (w:World) :
 Calls Tryz.prog 266 #[.int .u64 (cm:Nat),.int .i64 who,.int .i64 at_] w fun e w'=>e=.returned (.string ⟨(stW cm who at_).toArray⟩)∧Grew w w':=by
 have hlen:=qv cm who at_ hw ha
 have c0:=fun W=>jp (cm:Nat) ⟨by omega,by omega⟩ W
 simp only [Int.toNat_natCast]at c0
 have C0:=hQ9 c0
 have C1:=hQ9 (fun W=>xx who hw.1 hw.2 W)
 have C2:=hQ9 (fun W=>xx at_ ha.1 ha.2 W)
 have CJ:Hid (∀(A4:Option Addr) (W:World),Rd W W.heap.size A4 (strL [⟨#[115,116,97,109,112]⟩,⟨(hexL cm).toArray⟩,⟨(Lib.itoa who).toArray⟩,⟨(Lib.itoa at_).toArray⟩])→Calls Tryz.prog 93 #[.slice A4 4 4] W fun e w'=>e=.returned (.string ⟨(stW cm who at_).toArray⟩)∧Grew W w'):=hQ9 (fun A4 W hR=>by
  have:=kB A4 4 [⟨#[115,116,97,109,112]⟩,⟨(hexL cm).toArray⟩,⟨(Lib.itoa who).toArray⟩,⟨(Lib.itoa at_).toArray⟩] (by simp) (by simp only [stW]at hlen;simp [bys,tagStamp]at hlen ⊢;omega) W hR
  simpa [bys,stW,tagStamp]using this)
 clear hc hw ha hlen c0
 generalize (⟨(stW cm who at_).toArray⟩:ByteArray)=tj at *
 generalize (⟨(hexL cm).toArray⟩:ByteArray)=t0 at *
 generalize (⟨(Lib.itoa who).toArray⟩:ByteArray)=t1 at *
 generalize (⟨(Lib.itoa at_).toArray⟩:ByteArray)=t2 at *
 go_enter Tryz.func266,Tryz.ntmps266
 go_wp2_with fail
 refine(C0.out w).mono ?_
 rintro e w1 ⟨rfl,g1⟩
 go_wp2_with fail
 refine(C1.out w1).mono ?_
 rintro e w2 ⟨rfl,gg⟩
 have g2:=zb g1 gg
 clear g1 gg
 go_wp2_with fail
 refine(C2.out w2).mono ?_
 rintro e w3 ⟨rfl,gg⟩
 have g3:=zb g2 gg
 clear g2 gg
 go_wp2_with fail
 refine(CJ.out _ _ (yD w3 _ #[.string ⟨#[115,116,97,109,112]⟩,.string t0,.string t1,.string t2])).mono ?_
 rintro e w4 ⟨rfl,gg⟩
 have g4:=zb (ze g3 _) gg
 clear g3 gg
 go_wp2_with fail
 go_ret
 exact⟨rfl,g4⟩
theorem zet (cm:Nat) (who at_:Int) (hc:cm<18446744073709551616) (hw:in64 who) (ha:in64 at_) (w:World) :
 Calls Tryz.prog 222 #[.int .u64 (cm:Nat),.int .i64 who,.int .i64 at_] w fun e w'=>e=.returned (.int .u64 (stD cm who at_:Nat))∧Grew w w':=by
 have CW:=hQ9 (zf0 cm who at_ hc hw ha w)
 have CH:=hQ9 (fun W=>kL ⟨#[115,116,97,109,112]⟩ ⟨(stW cm who at_).toArray⟩ (by decide) (by have:=qv cm who at_ hw ha;simp [ByteArray.size];omega) W)
 have e1:sumL (⟨#[115,116,97,109,112]⟩:ByteArray).data.toList (⟨(stW cm who at_).toArray⟩:ByteArray).data.toList=stD cm who at_:=by simp [stD,tagStamp]
 rw [e1]at CH
 clear e1 hc hw ha
 generalize stD cm who at_=d at *
 generalize (⟨(stW cm who at_).toArray⟩:ByteArray)=tj at *
 go_enter Tryz.func222,Tryz.ntmps222
 go_wp2_with fail
 refine(CW.out).mono ?_
 rintro e w1 ⟨rfl,g1⟩
 go_wp2_with fail
 refine(CH.out w1).mono ?_
 rintro e w2 ⟨rfl,g2⟩
 go_wp2_with fail
 go_ret
 exact⟨rfl,zb g1 g2⟩
theorem zf1 (cm:Nat) (who:Int) (hc:cm<18446744073709551616) (hw:in64 who) (w:World) :
 Calls Tryz.prog 41 #[.int .u64 (cm:Nat),.int .i64 who] w fun e w'=>e=.returned (.string ⟨(akW cm who).toArray⟩)∧Grew w w':=by
 have hlen:=qw cm who hw
 have c0:=fun W=>jp (cm:Nat) ⟨by omega,by omega⟩ W
 simp only [Int.toNat_natCast]at c0
 have C0:=hQ9 c0
 have C1:=hQ9 (fun W=>xx who hw.1 hw.2 W)
 have CJ:Hid (∀(A4:Option Addr) (W:World),Rd W W.heap.size A4 (strL [⟨#[97,99,107]⟩,⟨(hexL cm).toArray⟩,⟨(Lib.itoa who).toArray⟩])→Calls Tryz.prog 93 #[.slice A4 3 3] W fun e w'=>e=.returned (.string ⟨(akW cm who).toArray⟩)∧Grew W w'):=hQ9 (fun A4 W hR=>by
  have:=kB A4 3 [⟨#[97,99,107]⟩,⟨(hexL cm).toArray⟩,⟨(Lib.itoa who).toArray⟩] (by simp) (by simp only [akW]at hlen;simp [bys,tagAck]at hlen ⊢;omega) W hR
  simpa [bys,akW,tagAck]using this)
 clear hc hw hlen c0
 generalize (⟨(akW cm who).toArray⟩:ByteArray)=tj at *
 generalize (⟨(hexL cm).toArray⟩:ByteArray)=t0 at *
 generalize (⟨(Lib.itoa who).toArray⟩:ByteArray)=t1 at *
 go_enter Tryz.func41,Tryz.ntmps41
 go_wp2_with fail
 refine(C0.out w).mono ?_
 rintro e w1 ⟨rfl,g1⟩
 go_wp2_with fail
 refine(C1.out w1).mono ?_
 rintro e w2 ⟨rfl,gg⟩
 have g2:=zb g1 gg
 clear g1 gg
 go_wp2_with fail
 refine(CJ.out _ _ (yD w2 _ #[.string ⟨#[97,99,107]⟩,.string t0,.string t1])).mono ?_
 rintro e w4 ⟨rfl,gg⟩
 have g4:=zb (ze g2 _) gg
 clear g2 gg
 go_wp2_with fail
 go_ret
 exact⟨rfl,g4⟩
theorem zeu (cm:Nat) (who:Int) (hc:cm<18446744073709551616) (hw:in64 who) (w:World) :
 Calls Tryz.prog 39 #[.int .u64 (cm:Nat),.int .i64 who] w fun e w'=>e=.returned (.int .u64 (akD cm who:Nat))∧Grew w w':=by
 have CW:=hQ9 (zf1 cm who hc hw w)
 have CH:=hQ9 (fun W=>kL ⟨#[97,99,107]⟩ ⟨(akW cm who).toArray⟩ (by decide) (by have:=qw cm who hw;simp [ByteArray.size];omega) W)
 have e1:sumL (⟨#[97,99,107]⟩:ByteArray).data.toList (⟨(akW cm who).toArray⟩:ByteArray).data.toList=akD cm who:=by simp [akD,tagAck]
 rw [e1]at CH
 clear e1 hc hw
 generalize akD cm who=d at *
 generalize (⟨(akW cm who).toArray⟩:ByteArray)=tj at *
 go_enter Tryz.func39,Tryz.ntmps39
 go_wp2_with fail
 refine(CW.out).mono ?_
 rintro e w1 ⟨rfl,g1⟩
 go_wp2_with fail
 refine(CH.out w1).mono ?_
 rintro e w2 ⟨rfl,g2⟩
 go_wp2_with fail
 go_ret
 exact⟨rfl,zb g1 g2⟩
end Go.Proofs.YtkpnheenacchhaaGreatDoor
