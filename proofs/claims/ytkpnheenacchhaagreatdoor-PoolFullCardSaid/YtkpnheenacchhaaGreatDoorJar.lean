/- A pool: Drop, Clone, Twin (mkplf.py). -/
import Derived.Test.YtkpnheenacchhaaGreatDoorJzz
import Derived.Lib.SliceRun
import Derived.Test.YtkpnheenacchhaaGreatDoorJaq
set_option maxHeartbeats 1000000
set_option maxRecDepth 100000
set_option linter.unusedSimpArgs false
set_option linter.unusedVariables false
namespace Go.Proofs.YtkpnheenacchhaaGreatDoor
open Go.RowKit
set_option linter.unnecessarySimpa false
theorem yo {w:World} {b b' n z:Nat} {e:TypeId} {v:Value} {xs:List Value} (h:w.ownsRow b e z v n xs) (hb:b'≤b):w.ownsRow b' e z v n xs :=
 ⟨h.1,h.2.imp id (fun⟨g,cap,cur,h1,h2,h3⟩=>⟨g,cap,cur,h1,Nat.le_trans hb h2,h3⟩)⟩
theorem y4 {w:World} {b n z:Nat} {e:TypeId} {v:Value} {xs:List Value} (h:w.ownsRow b e z v n xs):∃ A c,v=.slice A n c:=by
 rcases h.2 with ⟨rfl,rfl⟩ | ⟨g,cap,cur,rfl,_⟩
 ·exact⟨none,0,rfl⟩
 ·exact⟨_,cap,rfl⟩
theorem kg {E:List En} (h:srtE E) (P:En→Bool):srtE (E.filter P):=h.sublist List.filter_sublist
theorem jx {p base:Nat} {room fl:Int} {v:Value} {E:List En} (to:Int) (w:World) (h:PlS w p base room fl v E) (hb:base≤w.heap.size) :
 Calls Tryz.prog 21 #[.pointer (some ⟨p,0,none⟩),.int .i64 to] w fun e w'=>∃ v',e=.returned (.int .i64 ((E.length:Int)-((E.filter (keepDP to)).length:Int)))∧PlS w' p base room fl v' (E.filter (keepDP to))∧Kp (fun b=>b=p) w w'∧(∀ g,v'.ownBlock=some g→w.heap.size≤g):=by
 have G0:=zc (za w) (.cells #[.int .i64 to] 2)
 have c0:(w.alloc (.cells #[.int .i64 to] 2)).cell? ⟨w.heap.size,0,none⟩=some (.int .i64 to):=by simp
 have h1:=h.gr G0
 have CL:=hQ9 (zT _ h1)
 have CK:=hQ9 (ju to w.heap.size _ h1 c0)
 have HH:=hQ9 h1
 have HG:=hQ9 G0
 have HB:=hQ9 hb
 have hlen:=h.len
 have hle:(E.filter (keepDP to)).length≤E.length:=List.length_filter_le _ _
 have e1:IntKind.i64.wrap ((E.length:Int)-((E.filter (keepDP to)).length:Int))=(E.length:Int)-((E.filter (keepDP to)).length:Int):=IntWalk.i64_in _ (by omega)
 clear h hb c0 G0 h1
 go_enter Tryz.func21,Tryz.ntmps21
 go_wp2_with fail
 refine(CL.out).mono ?_
 rintro e w1 ⟨rfl,rfl⟩
 go_wp2_with fail
 refine(CK.out).mono ?_
 rintro e w2 ⟨v2,rfl,ho2,g2⟩
 have hpt:=HH.out.ptr.grew g2
 have hf:w2.frozen? ⟨p,3,none⟩=false:=by simpa using (hpt.there 3 (by simp)).2
 have hc:w2.cell? ⟨p,3,none⟩=some v:=by simpa using hpt.cell 3 _ rfl
 have hlt:=HH.out.ptr.lt
 have hsz:=HG.out.size
 have hne':v2.ownBlock≠some p:=fun e=>by have:=(zl ho2 p e).1;omega
 have k4:=zW (S:=fun b=>b=p) (zt _ w2) (p:=⟨p,3,none⟩) (.inl rfl) v2
 have hP:PlS (w2.setCell ⟨p,3,none⟩ v2) p base room fl v2 (E.filter (keepDP to)) :=
  ⟨hpt.set1L 3 v2 (by simp),yo (zj ho2 k4 (fun g hg e=>hne' (by rw [hg];have e9:g=p:=e;rw [e9]))) (Nat.le_trans HB.out hsz),hne',kg HH.out.srt _,Nat.le_trans hle hlen⟩
 have hK:Kp (fun b=>b=p) w (w2.setCell ⟨p,3,none⟩ v2):=zx (zi (zb HG.out g2)) k4
 have hO:∀ g,v2.ownBlock=some g→w.heap.size≤g:=fun g hg=>Nat.le_trans hsz (zl ho2 g hg).1
 have CL2:=hQ9 (zT _ hP)
 have HF:=hQ9 (And.intro hP (And.intro hK hO))
 obtain⟨A2,c2,rfl⟩:=y4 ho2
 clear hP hK hO k4 hne' hpt ho2 g2 CK CL hsz hlt hle
 go_wp2_with fail
 refine(CL2.out).mono ?_
 rintro e w3 ⟨rfl,rfl⟩
 go_wp2_with fail
 go_ret
 exact⟨_,rfl,HF.out.1,HF.out.2.1,HF.out.2.2⟩
theorem jy {base:Nat} {v:Value} {E:List En} (hl:E.length≤1000) (w:World) (hown:w.ownsRow base 141 8 v E.length (enL E).flatten) :
 Calls Tryz.prog 75 #[v] w fun e w'=>∃ v',e=.returned v'∧w'.ownsRow w.heap.size 141 8 v' E.length (enL E).flatten∧Grew w w':=by
 obtain⟨i0,hi0,hz0,hz1,hz2⟩:=info_parts zY
 rcases hown.2 with ⟨rfl,h0⟩ | ⟨g,cap,cur,rfl,hg1,hg2,hg3,hg4,hg5,hg6⟩
 ·have he:=fun W=>Lib.run_eql_slice_nil (P:=Tryz.prog) W 133 141 none 0 0 0 0 Tryz.underlying133
  have hE:E=[]:=List.length_eq_zero_iff.1 h0
  subst hE
  clear hown h0
  go_enter Tryz.func75,Tryz.ntmps75
  go_wp2_with fail
  go_ret
  exact⟨_,rfl,World.ownsRow_nil _ _ _ _,za _⟩
 ·have he:=fun W=>Lib.run_eql_slice_nil (P:=Tryz.prog) W 133 141 (some ⟨g,0,none⟩) E.length cap 0 0 Tryz.underlying133
  have hmade:(w.alloc (.cells #[] 141)).ownsRow w.heap.size 141 8 (.slice (some ⟨w.heap.size,0,none⟩) 0 0) 0 []:=World.ownsRow_made w #[] 0 (Nat.le_refl _) (by decide) rfl
  have hfl:(enL E).flatten.length=E.length*8:=by rw [zQ _ (enL_z E),zv]
  have hcells:∀ j u,(enL E).flatten[j]?=some u→(w.alloc (.cells #[] 141)).cell? ((⟨g,0,none⟩:Addr).add j)=some u:=fun j u hj=>by
   rw [yP]
   rw [←hg6,List.getElem?_take]at hj
   split at hj
   ·have:w.cell? ⟨g,j,none⟩=some u:=by simp only [World.cell?,hg2];simpa using hj
    exact zh this (zc (za w) _)
   ·cases hj
  have hone:∀ u∈(enL E).flatten,u.oneCell'=true:=fun u hu=>by obtain⟨l,h8,h9⟩:=List.mem_flatten.1 hu;exact x4 E l h8 u h9
  have HC:=hQ9 hcells
  have HO:=hQ9 hone
  clear hown hg2 hg5 hg6 hcells hone
  go_enter Tryz.func75,Tryz.ntmps75
  go_wp2_with(at_builtin;refine zo _ rfl (.tmp 5) (.tmp 6) 133 rfl w.heap.size 141 i0 (.agg (#[.int .i64 0,.int .u64 0,.int .i64 0,.int .i64 0,.int .i64 0,.int .i64 0,.int .i64 0,.slice none 0 0]:Array Value)) 8 80 Tryz.underlying133 hi0 hz0 hz1 hz2 rfl (by decide) _ 0 [] rfl hmade ⟨g,0,none⟩ E.length cap (enL E).flatten rfl hfl HC.out HO.out (by unfold maxLen;omega) (by omega) (by rw [zg];omega) ?_;intro v2 w2 hown2 hgrow hat)
  simp only [Nat.zero_add,List.nil_append]at hown2
  go_ret
  exact⟨v2,rfl,hown2,((Below.refl _ _).alloc (Nat.le_refl _) _).grown hgrow (by simp) (fun g hg=>by have h':some w.heap.size=some g:=hg;injection h' with h';omega)⟩
theorem jz {p base:Nat} {room fl:Int} {v:Value} {E:List En} (w:World) (h:PlS w p base room fl v E) :
 Calls Tryz.prog 23 #[.pointer (some ⟨p,0,none⟩)] w fun e w'=>∃ q v',e=.returned (.pointer (some ⟨q,0,none⟩))∧PlS w' q w.heap.size room fl v' E∧w.heap.size≤q∧Grew w w':=by
 have hub:=Tryz.underlying137
 obtain⟨C,hC⟩:∃ C:Array Value,#[.int .i64 room,.int .i64 fl,.func (.func 58) #[] #[],v]=C:=⟨_,rfl⟩
 obtain⟨A,c,rfl,_⟩:=h.rd
 have hm:w.rangeAt p 0 C.toList:=by rw [←hC];exact h.ptr.cell
 have hsz:C.size=4:=by rw [←hC];rfl
 have hon:C.all (·.oneCell')=true:=by rw [←hC];simp [Value.oneCell']
 have SI:Hid ((Tryz.prog.info? 137).map (·.size)=some C.toList.length):=hQ9 (by rw [Array.length_toList,hsz];kernel_rfl)
 have SZ:Hid ((Tryz.prog.info? 137).map (·.size)=some C.size):=hQ9 (by rw [hsz];kernel_rfl)
 obtain⟨w1,hw1,ht1,g1,z1⟩:=z6 w 137 (#[.int .i64 0,.int .i64 0,.nilFunc,.slice none 0 0]:Array Value) C (by rw [hsz];rfl)
 have HW1:=hQ9 hw1
 have HT1:=hQ9 ht1
 have HON:=hQ9 hon
 have HM:=hQ9 hm
 have h1:=h.gr g1
 have hc:=h1.c3
 have CC:=hQ9 (jy h.len w1 h1.own)
 have HH:=hQ9 h1
 have HG1:=hQ9 g1
 have HZ1:=hQ9 z1
 have HCC:=hQ9 hC
 clear h hC hm hsz hon hw1 ht1 g1 z1 h1
 go_enter Tryz.func23,Tryz.ntmps23
 go_wp2_with(first
  | (with_reducible refine wpList_load_mid rfl 137 (.tmp 5) rfl p 0 rfl C.toList _ HM.out hub rfl SI.out ?_;simp only [Array.toArray_toList])
  | (with_reducible refine wpList_store_mid rfl 137 (.tmp 3) (.tmp 6) rfl w.heap.size 0 C rfl rfl HT1.out SZ.out HON.out ?_;rw [HW1.out]))
 refine(CC.out).mono ?_
 rintro e w2 ⟨v2,rfl,ho2,g2⟩
 have z2:=HZ1.out.grew g2
 rw [←HCC.out]at z2
 have hc2:w2.cell? ⟨w.heap.size,3,none⟩=some (.slice A E.length c):=by simpa using z2.cell 3 _ rfl
 have hf2:w2.frozen? ⟨w.heap.size,3,none⟩=false:=by simpa using (z2.there 3 (by simp)).2
 have hs1:=HZ1.out.lt
 have hne':v2.ownBlock≠some w.heap.size:=fun e=>by have:=(zl ho2 _ e).1;omega
 have k4:=zW (S:=fun b=>b=w.heap.size) (zt _ w2) (p:=⟨w.heap.size,3,none⟩) (.inl rfl) v2
 have hP:PlS (w2.setCell ⟨w.heap.size,3,none⟩ v2) w.heap.size w.heap.size room fl v2 E :=
  ⟨z2.set1L 3 v2 (by simp),yo (zj ho2 k4 (fun g hg e=>hne' (by rw [hg];have e9:g=w.heap.size:=e;rw [e9]))) HG1.out.size,hne',HH.out.srt,HH.out.len⟩
 have hG:Grew w (w2.setCell ⟨w.heap.size,3,none⟩ v2):=zw (zb HG1.out g2) k4 (zb HG1.out g2).size (fun b e=>by have e9:b=w.heap.size:=e;omega)
 have HF:=hQ9 (And.intro hP hG)
 obtain⟨A2,c2,rfl⟩:=y4 ho2
 clear hP hG k4 hne' z2 ho2 g2 CC
 go_wp2_with fail
 go_ret
 exact⟨w.heap.size,_,rfl,HF.out.1,Nat.le_refl _,HF.out.2⟩
end Go.Proofs.YtkpnheenacchhaaGreatDoor
