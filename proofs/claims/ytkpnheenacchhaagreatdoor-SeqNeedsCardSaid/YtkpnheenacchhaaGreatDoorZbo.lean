/- folkmootlaw14.Of: an ack as the reference's; To: the other way (mkakh.py). -/
import Derived.Test.YtkpnheenacchhaaGreatDoorZzz
import Derived.Test.YtkpnheenacchhaaGreatDoorZbn
set_option maxHeartbeats 2000000
set_option maxRecDepth 100000
set_option linter.unusedSimpArgs false
set_option linter.unusedVariables false
namespace Go.Proofs.YtkpnheenacchhaaGreatDoor
open Go.RowKit
structure AgK (w:World) (B:Nat) (cm:Nat) (who sw lf:Int) (s:Nat→Nat) (l:List Nat) (v:Value):Prop where
 out:∃ A c,v=.agg (akC cm who sw lf s (.slice A l.length c))∧Rd w w.heap.size A (u64L l)∧(∀ ad,A=some ad→B≤ad.block)
theorem AgK.gr {w w':World} {B cm:Nat} {who sw lf:Int} {s:Nat→Nat} {l:List Nat} {v:Value} (h:AgK w B cm who sw lf s l v) (g:Grew w w'):AgK w' B cm who sw lf s l v:=by
 obtain⟨A,c,h1,h2,h3⟩:=h.out
 exact⟨A,c,h1,h2.gr g,h3⟩
theorem zli (cm:Nat) (who sw lf:Int) (s:Nat→Nat) (A:Option Addr) (c:Nat) (l:List Nat) (hl:l.length≤1048576) (w:World) (hr:Rd w w.heap.size A (u64L l)) :
 Calls Tryz.prog 43 #[.agg (akC cm who sw lf s (.slice A l.length c))] w fun e w'=>∃ A' c',e=.returned (.agg (akC cm who sw lf s (.slice A' l.length c')))∧Rd w' w'.heap.size A' (u64L l)∧Grew w w'∧(∀ ad,A'=some ad→w.heap.size≤ad.block):=by
 have z0:=Ag.new w 79 (akC cm who sw lf s (.slice A l.length c))
 have G0:=ze (za w) (.cells (akC cm who sw lf s (.slice A l.length c)) 79)
 have hus:=Tryz.underlying77
 have hur:=Tryz.underlying70
 have CO:=hQ9 (fun W hR=>kof_fr sw lf s A c l hl W hR)
 have HSL:Hid ((Tryz.prog.info? 77).map (·.size)=some (sgC sw lf s (.slice A l.length c)).toList.length):=hQ9 zv
 go_enter Tryz.func43,Tryz.ntmps43
 go_wp2_with fail
 have z2:Ag ((w.alloc (.cells (akC cm who sw lf s (.slice A l.length c)) 79)).alloc (.cells (#[.int .u64 0,.int .i64 0,.int .i64 0,.int .i64 0,.int .u64 0,.int .u64 0,.int .u64 0,.int .u64 0,.int .u64 0,.int .u64 0,.int .u64 0,.int .u64 0,.int .u64 0,.int .u64 0,.int .u64 0,.int .u64 0,.int .u64 0,.int .u64 0,.int .u64 0,.int .u64 0,.int .u64 0,.int .u64 0,.slice none 0 0]) 70)) (w.heap.size+1) (#[.int .u64 0,.int .i64 0,.int .i64 0,.int .i64 0,.int .u64 0,.int .u64 0,.int .u64 0,.int .u64 0,.int .u64 0,.int .u64 0,.int .u64 0,.int .u64 0,.int .u64 0,.int .u64 0,.int .u64 0,.int .u64 0,.int .u64 0,.int .u64 0,.int .u64 0,.int .u64 0,.int .u64 0,.int .u64 0,.slice none 0 0]:Array Value).toList:=by
  have:=Ag.new (w.alloc (.cells (akC cm who sw lf s (.slice A l.length c)) 79)) 70 (#[.int .u64 0,.int .i64 0,.int .i64 0,.int .i64 0,.int .u64 0,.int .u64 0,.int .u64 0,.int .u64 0,.int .u64 0,.int .u64 0,.int .u64 0,.int .u64 0,.int .u64 0,.int .u64 0,.int .u64 0,.int .u64 0,.int .u64 0,.int .u64 0,.int .u64 0,.int .u64 0,.int .u64 0,.int .u64 0,.slice none 0 0])
  simpa using this
 have z1:=z0.grew (ze (za _) (.cells (#[.int .u64 0,.int .i64 0,.int .i64 0,.int .i64 0,.int .u64 0,.int .u64 0,.int .u64 0,.int .u64 0,.int .u64 0,.int .u64 0,.int .u64 0,.int .u64 0,.int .u64 0,.int .u64 0,.int .u64 0,.int .u64 0,.int .u64 0,.int .u64 0,.int .u64 0,.int .u64 0,.int .u64 0,.int .u64 0,.slice none 0 0]) 70))
 have G2:=ze G0 (.cells (#[.int .u64 0,.int .i64 0,.int .i64 0,.int .i64 0,.int .u64 0,.int .u64 0,.int .u64 0,.int .u64 0,.int .u64 0,.int .u64 0,.int .u64 0,.int .u64 0,.int .u64 0,.int .u64 0,.int .u64 0,.int .u64 0,.int .u64 0,.int .u64 0,.int .u64 0,.int .u64 0,.int .u64 0,.int .u64 0,.slice none 0 0]) 70)
 clear z0 G0
 generalize (w.alloc (.cells (akC cm who sw lf s (.slice A l.length c)) 79)).alloc (.cells (#[.int .u64 0,.int .i64 0,.int .i64 0,.int .i64 0,.int .u64 0,.int .u64 0,.int .u64 0,.int .u64 0,.int .u64 0,.int .u64 0,.int .u64 0,.int .u64 0,.int .u64 0,.int .u64 0,.int .u64 0,.int .u64 0,.int .u64 0,.int .u64 0,.int .u64 0,.int .u64 0,.int .u64 0,.int .u64 0,.slice none 0 0]) 70)=w2 at *
 have HC0:Hid (∀ y,Grew w2 y→y.cell? ⟨w.heap.size,0,none⟩=some (.int .u64 (cm:Nat))):=hQ9 (fun y g=>by simpa using (z1.grew g).cell 0 _ rfl)
 have HC1:Hid (∀ y,Grew w2 y→y.cell? ⟨w.heap.size,1,none⟩=some (.int .i64 who)):=hQ9 (fun y g=>by simpa using (z1.grew g).cell 1 _ rfl)
 have HCM:Hid (∀ y,Grew w2 y→y.rangeAt w.heap.size 2 (sgC sw lf s (.slice A l.length c)).toList):=hQ9 (fun y g=>x9 (z1.grew g).cell)
 have r2:=hr.gr G2
 have HRY:=hQ9 (fun y (g:Grew w2 y)=>r2.gr g)
 clear z1 hr r2
 generalize sgC sw lf s (.slice A l.length c)=gs at *
 refine zw 8 (fun ix9=>match ix9 with
  | 0=>fun v _=>v=.pointer (some ⟨w.heap.size,0,none⟩)
  | 1=>fun v _=>v=.int .u64 (cm:Nat)
  | 2=>fun v _=>v=.pointer (some ⟨w.heap.size,1,none⟩)
  | 3=>fun v _=>v=.int .i64 who
  | 4=>fun v _=>v=.pointer (some ⟨w.heap.size,2,none⟩)
  | 5=>fun v _=>v=.agg gs
  | 6=>fun v w=>AgS w w2.heap.size sw lf s l v
  | 7=>fun v w=>AgK w w2.heap.size cm who sw lf s l v
  | _=>fun _ _=>True) (by kernel_rfl) (by kernel_rfl) ?_ ?_ ?_
 ·intro i v x y h hg
  match i,h with
  | 0,h | 1,h | 2,h | 3,h | 4,h | 5,h=>exact h
  | 6,h=>exact AgS.gr h hg
  | 7,h=>exact AgK.gr h hg
  | m+8,_=>trivial
 ·simp only [actOf,tk1,tk0,dr1,dr0,Act.put,si1,st1,st0,Nat.reduceAdd]
  refine⟨?_,?_,?_,?_,?_,?_,?_,?_,trivial⟩
  ·intro vs y hg hd
   dsimp only
   go_wp2_with fail
   exact⟨rfl,_,rfl,za _,rfl⟩
  ·intro vs y hg hd
   obtain⟨h0,_⟩:=hd
   replace h0:=h0 rfl
   dsimp only
   rw [show vs 0=_ from h0]
   have hc:=HC0.out y hg
   go_wp2_with fail
   exact⟨rfl,_,rfl,za _,rfl⟩
  ·intro vs y hg hd
   dsimp only
   go_wp2_with fail
   exact⟨rfl,_,rfl,za _,rfl⟩
  ·intro vs y hg hd
   obtain⟨h2,_⟩:=hd
   replace h2:=h2 rfl
   dsimp only
   rw [show vs 2=_ from h2]
   have hc:=HC1.out y hg
   go_wp2_with fail
   exact⟨rfl,_,rfl,za _,rfl⟩
  ·intro vs y hg hd
   dsimp only
   go_wp2_with fail
   exact⟨rfl,_,rfl,za _,rfl⟩
  ·intro vs y hg hd
   obtain⟨h4,_⟩:=hd
   replace h4:=h4 rfl
   dsimp only
   rw [show vs 4=_ from h4]
   have hm:=HCM.out y hg
   go_wp2_with(with_reducible refine wpList_load_mid rfl 77 (.tmp 7) rfl w.heap.size 2 rfl gs.toList _ hm hus rfl HSL.out ?_;simp only [Array.toArray_toList])
   exact⟨rfl,_,rfl,za _,rfl⟩
  ·intro vs y hg hd
   obtain⟨h5,_⟩:=hd
   replace h5:=h5 rfl
   dsimp only
   rw [show vs 5=_ from h5]
   go_wp2_with(go_at_call 105;refine(CO.out y (HRY.out y hg)).mono ?_;rintro e z ⟨A2,c2,rfl,hr2,gz,hb2⟩)
   exact⟨rfl,_,rfl,gz,⟨A2,c2,rfl,hr2,fun ad h=>by have:=hb2 ad h;have:=hg.size;omega⟩⟩
  ·intro vs y hg hd
   obtain⟨h1,h3,h6,_⟩:=hd
   replace h1:=h1 rfl
   replace h3:=h3 rfl
   replace h6:=h6 rfl
   dsimp only
   rw [show vs 1=_ from h1,show vs 3=_ from h3]
   obtain⟨A2,c2,hv,hr2,hb2⟩:=AgS.out h6
   rw [hv]
   have HBU:=hQ9 (zhc cm who sw lf s A2 l.length c2)
   go_wp2_with(with_reducible refine zL rfl 70 #[(0,.tmp 4),(1,.tmp 6),(2,.tmp 9)] rfl (akC cm who sw lf s (.slice A2 l.length c2)) ?_ ?_;· simpa [Act.eval,Act.put]using HBU.out)
   exact⟨rfl,_,rfl,za _,⟨A2,c2,rfl,hr2,hb2⟩⟩
 ·intro vs y hg hJ
  have j0:vs 0=.pointer (some ⟨w.heap.size,0,none⟩):=hJ 0 (by decide)
  have j1:vs 1=.int .u64 (cm:Nat):=hJ 1 (by decide)
  have j2:vs 2=.pointer (some ⟨w.heap.size,1,none⟩):=hJ 2 (by decide)
  have j3:vs 3=.int .i64 who:=hJ 3 (by decide)
  have j4:vs 4=.pointer (some ⟨w.heap.size,2,none⟩):=hJ 4 (by decide)
  have j5:vs 5=.agg gs:=hJ 5 (by decide)
  have s9:=hJ 6 (by decide)
  have s10:=hJ 7 (by decide)
  clear hJ
  simp only [actOf,tk1,tk0,dr1,dr0,Act.put,si1,st1,st0,Nat.reduceAdd]
  obtain⟨A2,c2,j7,r3,hb3⟩:=AgK.out s10
  rw [j7]
  clear s9 s10 j7
  have hz1:=z2.lt
  have hz2:=G2.size
  have HNE:Hid (∀ ad,A2=some ad→ad.block≠w.heap.size+1):=hQ9 (fun ad h=>by have:=hb3 ad h;omega)
  have HLO:Hid (∀ ad,A2=some ad→w.heap.size≤ad.block):=hQ9 (fun ad h=>by have:=hb3 ad h;omega)
  have z3:=z2.grew hg
  have G3:=zb G2 hg
  clear z2 G2 hg hb3 hz1 hz2
  have HTH:Hid (y.there (w.heap.size+1) 0 (akC cm who sw lf s (.slice A2 l.length c2)).size):=hQ9 (z3.thereN 23 rfl)
  have HSI:Hid ((Tryz.prog.info? 70).map (·.size)=some (akC cm who sw lf s (.slice A2 l.length c2)).size):=hQ9 zcb
  have HON:=hQ9 (x8 cm who sw lf s A2 l.length c2)
  have K3:=zj (akC cm who sw lf s (.slice A2 l.length c2)).toList (w.heap.size+1) 0 y
  have r4:=(r3.kp K3 (Nat.le_refl _) (fun ad h1 h2 h3=>HNE.out ad h1 h3)).more K3.size
  have z4:=Ag.set (vs:=(akC cm who sw lf s (.slice A2 l.length c2)).toList) z3 rfl
  have G4:=zi (o:=0) (b:=w.heap.size+1) (akC cm who sw lf s (.slice A2 l.length c2)).toList G3 (by omega)
  go_wp2_with(with_reducible refine wpList_store_mid rfl 70 (.tmp 2) (.tmp 10) rfl (w.heap.size+1) 0 (akC cm who sw lf s (.slice A2 l.length c2)) rfl rfl HTH.out HSI.out HON.out ?_)
  exact bodyPost_ret (zX Tryz.results43 _ _ (w.heap.size+1) _ _ rfl z4 hur rfl zcb) rfl ⟨A2,⟨c2,rfl⟩,r4,G4,HLO.out⟩
theorem zfn (cm:Nat) (who sw lf:Int) (s:Nat→Nat) (A A':Option Addr) (c c':Nat) (l:List Nat) (hl:l.length≤1048576) (w:World) (hr:Rd w w.heap.size A (u64L l)) (hr':Rd w w.heap.size A' (u64L l)) :
 Calls Tryz.prog 42 #[.agg (akC cm who sw lf s (.slice A l.length c)),.agg (akC cm who sw lf s (.slice A' l.length c'))] w fun e w'=>e=.returned (.bool true)∧Grew w w':=by
 have z1:=(Ag.new w 70 (akC cm who sw lf s (.slice A l.length c))).grew (ze (za _) (.cells (akC cm who sw lf s (.slice A' l.length c')) 70))
 have z2:=Ag.new (w.alloc (.cells (akC cm who sw lf s (.slice A l.length c)) 70)) 70 (akC cm who sw lf s (.slice A' l.length c'))
 rw [zl]at z2
 have G0:=ze (ze (za w) (.cells (akC cm who sw lf s (.slice A l.length c)) 70)) (.cells (akC cm who sw lf s (.slice A' l.length c')) 70)
 have r1:=hr.gr G0
 have r2:=hr'.gr G0
 have hus:=Tryz.underlying68
 have HL1:Hid ((Tryz.prog.info? 68).map (·.size)=some (sgC sw lf s (.slice A l.length c)).toList.length):=hQ9 jj
 have HL2:Hid ((Tryz.prog.info? 68).map (·.size)=some (sgC sw lf s (.slice A' l.length c')).toList.length):=hQ9 jj
 have m1:=hQ9 (x9 z1.cell)
 have m2:=hQ9 (x9 z2.cell)
 have x0:((w.alloc (.cells (akC cm who sw lf s (.slice A l.length c)) 70)).alloc (.cells (akC cm who sw lf s (.slice A' l.length c')) 70)).cell? ⟨w.heap.size,0,none⟩=some (.int .u64 (cm:Nat)):=by simpa using z1.cell 0 _ rfl
 have x1:((w.alloc (.cells (akC cm who sw lf s (.slice A l.length c)) 70)).alloc (.cells (akC cm who sw lf s (.slice A' l.length c')) 70)).cell? ⟨w.heap.size,1,none⟩=some (.int .i64 who):=by simpa using z1.cell 1 _ rfl
 have y0:((w.alloc (.cells (akC cm who sw lf s (.slice A l.length c)) 70)).alloc (.cells (akC cm who sw lf s (.slice A' l.length c')) 70)).cell? ⟨w.heap.size+1,0,none⟩=some (.int .u64 (cm:Nat)):=by simpa using z2.cell 0 _ rfl
 have y1:((w.alloc (.cells (akC cm who sw lf s (.slice A l.length c)) 70)).alloc (.cells (akC cm who sw lf s (.slice A' l.length c')) 70)).cell? ⟨w.heap.size+1,1,none⟩=some (.int .i64 who):=by simpa using z2.cell 1 _ rfl
 have CS:=hQ9 (zja sw lf s A A' c c' l hl _ r1 r2)
 have e0:((cm:Int)==(cm:Int))=true:=by simp
 have e1:(who==who)=true:=by simp
 have GG:=hQ9 G0
 clear z1 z2 r1 r2 G0 hr hr'
 go_enter Tryz.func42,Tryz.ntmps42
 obtain⟨v,hv⟩:∃ v,(w.alloc (.cells (akC cm who sw lf s (.slice A l.length c)) 70)).alloc (.cells (akC cm who sw lf s (.slice A' l.length c')) 70)=v:=⟨_,rfl⟩
 rw [hv]at CS GG x0 x1 y0 y1 m1 m2
 go_wp2_with(first
  | (refine zg (by rfl) 68 (.tmp 18) rfl w.heap.size 2 rfl (sgC sw lf s (.slice A l.length c)).toList _ m1.out hus rfl HL1.out ?_;simp only [Array.toArray_toList])
  | (refine zg (by rfl) 68 (.tmp 20) rfl (w.heap.size+1) 2 rfl (sgC sw lf s (.slice A' l.length c')).toList _ m2.out hus rfl HL2.out ?_;simp only [Array.toArray_toList]))
 refine(CS.out).mono ?_
 rintro e w1 ⟨rfl,gg⟩
 go_wp2_with fail
 go_ret
 exact⟨rfl,zb GG.out gg⟩
end Go.Proofs.YtkpnheenacchhaaGreatDoor
