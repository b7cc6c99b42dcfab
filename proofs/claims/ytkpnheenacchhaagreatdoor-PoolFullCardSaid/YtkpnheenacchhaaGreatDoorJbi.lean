/- cmd.wide, cmd.Text, cmd.Digest. -/
import Derived.Test.YtkpnheenacchhaaGreatDoorJzz
import Derived.Test.YtkpnheenacchhaaGreatDoorJan
import Derived.Test.YtkpnheenacchhaaGreatDoorJbg
import Derived.Test.YtkpnheenacchhaaGreatDoorJbh
import Derived.Test.YtkpnheenacchhaaGreatDoorJag
set_option maxHeartbeats 400000
set_option maxRecDepth 100000
set_option linter.unusedSimpArgs false
set_option linter.unusedVariables false
namespace Go.Proofs.YtkpnheenacchhaaGreatDoor
open Go.RowKit
theorem qv (A:Option Addr) (c:Nat) (l:List Int) (hl:l.length≤1048576) (hp:∀ x∈l,in64 x) (w:World) (hs:Std w) (hr:Rd w w.heap.size A (i64L l)) :
 Calls Tryz.prog 232 #[.slice A l.length c] w fun e w'=>∃ v,e=.returned v∧w'.ownsRow w.heap.size 2 1 v l.length (i64L l)∧Grew w w':=by
 have CM:=hQ9 (kk A c l hl hp w hs hr)
 clear hr hs hp
 go_enter Tryz.func232,Tryz.ntmps232
 go_wp2_with(go_at_call 269;refine(CM.out).mono ?_;rintro e w' ⟨v,rfl,ho,hg⟩)
 go_ret
 exact⟨_,rfl,by simpa [i64L]using ho,hg⟩
theorem qw {c:Cm} (h:c.in):∀ x∈[c.cl,c.no,c.fr,c.tt],in64 x:=fun x hx=>h x (by
 simp only [Cm.l,List.mem_cons,List.not_mem_nil,or_false]at hx ⊢
 rcases hx with h | h | h | h
 ·exact .inl h
 ·exact .inr (.inl h)
 ·exact .inr (.inr (.inl h))
 ·exact .inr (.inr (.inr (.inl h))))
theorem kP (w:World) (t:TypeId) (a b c d e:Value) :
 (w.alloc (.cells #[a,b,c,d,e] t)).cell? ⟨w.heap.size,0,none⟩=some a∧(w.alloc (.cells #[a,b,c,d,e] t)).cell? ⟨w.heap.size,1,none⟩=some b∧(w.alloc (.cells #[a,b,c,d,e] t)).cell? ⟨w.heap.size,2,none⟩=some c∧(w.alloc (.cells #[a,b,c,d,e] t)).cell? ⟨w.heap.size,3,none⟩=some d∧(w.alloc (.cells #[a,b,c,d,e] t)).cell? ⟨w.heap.size,4,none⟩=some e:=by
 refine⟨?_,?_,?_,?_,?_⟩<;>(rw [World.cell?_alloc_mark];simp)
theorem qx (c:Cm) (hc:c.in) (w:World) (hs:Std w):Calls Tryz.prog 181 #[c.v] w fun e w'=>e=.returned (txtV (txC c))∧Grew w w':=by
 have H4:=hQ9 (qw hc)
 have HC:=hQ9 hc
 clear hc
 obtain⟨i0,hi,hz0,hz1,hz2⟩:=info_parts (show(Tryz.prog.info? 2).map (fun i=>(i.zero,i.size,i.bytes))=some (some (.int .i64 0),1,8) by kernel_rfl)
 obtain⟨cl,no,fr,tt,am⟩:=c
 have HTX:Hid (txC ⟨cl,no,fr,tt,am⟩=nums [cl,no,fr,tt,am]):=hQ9 rfl
 have HC5:Hid (∀ x∈[cl,no,fr,tt,am],in64 x):=hQ9 HC.out
 clear HC
 unfold Cm.v
 dsimp only at H4 ⊢
 go_enter Tryz.func181,Tryz.ntmps181
 go_wp2_with fail
 obtain⟨k0,k1,k2,k3,k4⟩:=kP w 40 (.int .i64 cl) (.int .i64 no) (.int .i64 fr) (.int .i64 tt) (.int .i64 am)
 have g0:=zc (za w) (.cells #[.int .i64 cl,.int .i64 no,.int .i64 fr,.int .i64 tt,.int .i64 am] 40)
 have S0:=hQ9 (hs.grew g0)
 have hb:=zg w (.cells #[.int .i64 cl,.int .i64 no,.int .i64 fr,.int .i64 tt,.int .i64 am] 40)
 generalize w.alloc (.cells #[.int .i64 cl,.int .i64 no,.int .i64 fr,.int .i64 tt,.int .i64 am] 40)=W at *
 have hb:w.heap.size<W.heap.size:=by omega
 generalize w.heap.size=bk at *
 clear hs
 refine ze 13 (fun i=>match i with
  | 0=>fun v _=>v=.pointer (some ⟨bk,0,none⟩) | 1=>fun v _=>v=.int .i64 cl
  | 2=>fun v _=>v=.pointer (some ⟨bk,1,none⟩) | 3=>fun v _=>v=.int .i64 no
  | 4=>fun v _=>v=.pointer (some ⟨bk,2,none⟩) | 5=>fun v _=>v=.int .i64 fr
  | 6=>fun v _=>v=.pointer (some ⟨bk,3,none⟩) | 7=>fun v _=>v=.int .i64 tt
  | 8=>fun v w=>∃ A,v=.slice A 4 4∧Rd w w.heap.size A (i64L [cl,no,fr,tt])
  | 9=>fun v w=>w.ownsRow W.heap.size 2 1 v 4 (i64L [cl,no,fr,tt])
  | 10=>fun v _=>v=.pointer (some ⟨bk,4,none⟩) | 11=>fun v _=>v=.int .i64 am
  | 12=>fun v w=>∃ A,v=.slice A 1 1∧Rd w w.heap.size A (i64L [am])
  | _=>fun _ _=>True) (by kernel_rfl) (by kernel_rfl) ?_ ?_ ?_
 ·intro i v w1 w2 h hg
  match i,h with
  | 0,h | 1,h | 2,h | 3,h | 4,h | 5,h | 6,h | 7,h | 10,h | 11,h=>exact h
  | 8,⟨A,h1,h2⟩=>exact⟨A,h1,h2.gr hg⟩
  | 12,⟨A,h1,h2⟩=>exact⟨A,h1,h2.gr hg⟩
  | 9,h=>exact zm h hg
  | n+13,_=>trivial
 ·simp only [actOf,tk1,tk0,dr1,dr0,Act.put,si1,st1,st0,Nat.reduceAdd]
  refine⟨?_,?_,?_,?_,?_,?_,?_,?_,?_,?_,?_,?_,?_,trivial⟩
  ·intro vs w1 hg hd
   dsimp only
   go_wp2_with fail
   exact⟨rfl,_,rfl,za _,rfl⟩
  ·intro vs w1 hg hd
   obtain⟨h0,_⟩:=hd
   replace h0:=h0 rfl
   dsimp only
   rw [show vs 0=_ from h0]
   have hc:=(hg.cell (p:=⟨bk,0,none⟩) hb).trans k0
   go_wp2_with fail
   exact⟨rfl,_,rfl,za _,rfl⟩
  ·intro vs w1 hg hd
   dsimp only
   go_wp2_with fail
   exact⟨rfl,_,rfl,za _,rfl⟩
  ·intro vs w1 hg hd
   obtain⟨h2,_⟩:=hd
   replace h2:=h2 rfl
   dsimp only
   rw [show vs 2=_ from h2]
   have hc:=(hg.cell (p:=⟨bk,1,none⟩) hb).trans k1
   go_wp2_with fail
   exact⟨rfl,_,rfl,za _,rfl⟩
  ·intro vs w1 hg hd
   dsimp only
   go_wp2_with fail
   exact⟨rfl,_,rfl,za _,rfl⟩
  ·intro vs w1 hg hd
   obtain⟨h4,_⟩:=hd
   replace h4:=h4 rfl
   dsimp only
   rw [show vs 4=_ from h4]
   have hc:=(hg.cell (p:=⟨bk,2,none⟩) hb).trans k2
   go_wp2_with fail
   exact⟨rfl,_,rfl,za _,rfl⟩
  ·intro vs w1 hg hd
   dsimp only
   go_wp2_with fail
   exact⟨rfl,_,rfl,za _,rfl⟩
  ·intro vs w1 hg hd
   obtain⟨h6,_⟩:=hd
   replace h6:=h6 rfl
   dsimp only
   rw [show vs 6=_ from h6]
   have hc:=(hg.cell (p:=⟨bk,3,none⟩) hb).trans k3
   go_wp2_with fail
   exact⟨rfl,_,rfl,za _,rfl⟩
  ·intro vs w1 hg hd
   obtain⟨h1,h3,h5,h7,_⟩:=hd
   replace h1:=h1 rfl
   replace h3:=h3 rfl
   replace h5:=h5 rfl
   replace h7:=h7 rfl
   dsimp only
   rw [show vs 1=_ from h1,show vs 3=_ from h3,show vs 5=_ from h5,show vs 7=_ from h7]
   go_wp2_with fail
   exact⟨rfl,_,rfl,zc (za _) _,_,rfl,yu w1 _ _⟩
  ·intro vs w1 hg hd
   obtain⟨h8,_⟩:=hd
   replace h8:=h8 rfl
   dsimp only
   obtain⟨A,hv,hr⟩:=h8
   rw [hv]
   go_wp2_with(go_at_call 232;refine(qv A 4 [cl,no,fr,tt] (by simp) H4.out w1 (S0.out.grew hg) hr).mono ?_;rintro e w2 ⟨v2,rfl,ho,hg2⟩)
   exact⟨rfl,_,rfl,hg2,xx ho hg.size⟩
  ·intro vs w1 hg hd
   dsimp only
   go_wp2_with fail
   exact⟨rfl,_,rfl,za _,rfl⟩
  ·intro vs w1 hg hd
   obtain⟨h10,_⟩:=hd
   replace h10:=h10 rfl
   dsimp only
   rw [show vs 10=_ from h10]
   have hc:=(hg.cell (p:=⟨bk,4,none⟩) hb).trans k4
   go_wp2_with fail
   exact⟨rfl,_,rfl,za _,rfl⟩
  ·intro vs w1 hg hd
   obtain⟨h11,_⟩:=hd
   replace h11:=h11 rfl
   dsimp only
   rw [show vs 11=_ from h11]
   go_wp2_with fail
   exact⟨rfl,_,rfl,zc (za _) _,_,rfl,yu w1 _ _⟩
 ·intro vs w1 hg hJ
  have h9:w1.ownsRow W.heap.size 2 1 (vs 9) 4 (i64L [cl,no,fr,tt]):=hJ 9 (by decide)
  obtain⟨A,hv,hr⟩:∃ A,vs 12=.slice A 1 1∧Rd w1 w1.heap.size A (i64L [am]):=hJ 12 (by decide)
  simp only [actOf,tk1,tk0,dr1,dr0,Act.put,si1,st1,st0,Nat.reduceAdd]
  rw [hv]
  generalize vs 9=v9 at *
  clear hJ
  have hz:=hg.size
  go_wp2_with(at_builtin;refine zd rfl (.tmp 12) (.tmp 15) 234 rfl W.heap.size 2 i0 (.int .i64 0) 8 Tryz.underlying234 hi hz0 hz1 hz2 rfl v9 4 (i64L [cl,no,fr,tt]) rfl h9 w1.heap.size A 1 1 (i64L [am]) rfl rfl hr (jj _) (by unfold maxLen;omega) (by omega) hz ?_;intro v6 w6 hown6 hgrow6 _;have hg6:Grew W w6:=qg hg hgrow6 (zr h9))
  obtain⟨A6,c6,rfl,_,_,r6⟩:=zG hown6
  go_wp2_with(go_at_call 231;refine(qu A6 c6 [cl,no,fr,tt,am] (by simp) HC5.out w6 (S0.out.grew hg6) r6).mono ?_;rintro e w7 ⟨rfl,hg7⟩)
  go_ret
  exact⟨rfl,zb g0 (zb hg6 hg7)⟩
end Go.Proofs.YtkpnheenacchhaaGreatDoor
