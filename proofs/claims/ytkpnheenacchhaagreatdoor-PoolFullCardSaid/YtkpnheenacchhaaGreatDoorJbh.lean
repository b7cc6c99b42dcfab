/- field.ParseNums. -/
import Derived.Test.YtkpnheenacchhaaGreatDoorJzz
import Derived.Test.YtkpnheenacchhaaGreatDoorJaz
import Derived.Test.YtkpnheenacchhaaGreatDoorJbg
set_option maxRecDepth 100000
set_option linter.unusedSimpArgs false
set_option linter.unusedVariables false
namespace Go.Proofs.YtkpnheenacchhaaGreatDoor
open Go.RowKit Go.Shelf
attribute [local go_sem] Oper.semAt_some
theorem xx {w:World} {b b':Nat} {e:TypeId} {size n:Nat} {v:Value} {xs:List Value} (h:w.ownsRow b e size v n xs) (hb:b'≤b):w.ownsRow b' e size v n xs:=by
 obtain⟨h1,h2⟩:=h
 refine⟨h1,?_⟩
 rcases h2 with h2 | ⟨g',cap,cur,rfl,h3,h4⟩
 ·exact .inl h2
 ·exact .inr ⟨g',cap,cur,rfl,Nat.le_trans hb h3,h4⟩
end Go.Proofs.YtkpnheenacchhaaGreatDoor
namespace Go.Proofs.YtkpnheenacchhaaGreatDoor
open Go.RowKit
theorem xQ (x:List UInt8) (l:List (List UInt8)):Lib.join (x::l) [44]=x++(l.map fun y=>44::y).flatten:=by
 rw [Lib.join_cons]
 congr 1
theorem xy (x:List UInt8) (l:List (List UInt8)):joinC (x::l)=x++(l.map fun y=>44::y).flatten:=by
 induction l generalizing x with
 | nil=>simp [joinC]
 | cons y l ih=>rw [joinC,ih];simp
theorem yg (l:List (List UInt8)):Lib.join l [44]=joinC l:=by
 cases l with
 | nil=>rfl
 | cons x l=>rw [xQ,xy]
theorem xd (l:List (List UInt8)) (b:Nat) (h:∀ x∈l,x.length≤b):(joinC l).length≤l.length*(b+1):=by
 cases l with
 | nil=>simp [joinC]
 | cons x l =>
  rw [xy]
  have hx:=h x List.mem_cons_self
  have h2:((l.map fun y=>44::y).flatten).length≤l.length*(b+1):=by
   have h3:∀ y∈l,y.length≤b:=fun y hy=>h y (List.mem_cons_of_mem _ hy)
   clear h
   induction l with
   | nil=>simp
   | cons y l ih =>
    have:=h3 y List.mem_cons_self
    have:=ih (fun z hz=>h3 z (List.mem_cons_of_mem _ hz))
    simp only [List.map_cons,List.flatten_cons,List.length_append,List.length_cons,Nat.succ_mul]at this ⊢
    omega
  rw [List.length_append,List.length_cons,Nat.succ_mul]
  omega
theorem xz (l:List Int) (h:∀ x∈l,in64 x):(nums l).length≤l.length*21:=by
 have:=xd (l.map Lib.itoa) 20 (fun x hx=>by
  obtain⟨n,hn,rfl⟩:=List.mem_map.1 hx
  exact zD (h n hn).1 (h n hn).2)
 simpa [nums]using this
theorem xe {w:World} {base:Nat} {e:TypeId} {n:Nat} {v:Value} {xs:List Value} (h:w.ownsRow base e 1 v n xs) (hn:0<n) :
 ∃ g c,v=.slice (some ⟨g,0,none⟩) n c∧n≤c∧g<w.heap.size∧∀(j:Nat) x,xs[j]?=some x→w.cell? ⟨g,0+j,none⟩=some x:=by
 obtain⟨hl,h2⟩:=h
 rcases h2 with ⟨rfl,rfl⟩ | ⟨g,cap,cur,rfl,hb,hh,hc,hm,hs,ht⟩
 ·simp at hl;omega
 ·refine⟨g,cap,rfl,hc,(Array.getElem?_eq_some_iff.1 hh).1,?_⟩
  intro j x hx
  obtain⟨hj,rfl⟩:=List.getElem?_eq_some_iff.1 hx
  have hkc:j<cur.size:=by omega
  have:cur[j]?=some xs[j]:=by
   rw [Array.getElem?_eq_getElem hkc]
   simp only [←ht,List.getElem_take,Array.getElem_toList]
  simp [World.cell?,hh,this]
theorem qu (A:Option Addr) (c:Nat) (l:List Int) (hl:l.length≤1048576) (hp:∀ x∈l,in64 x) (w:World) (hs:Std w) (hr:Rd w w.heap.size A (i64L l)) :
 Calls Tryz.prog 231 #[.slice A l.length c] w fun e w'=>e=.returned (.string ⟨(nums l).toArray⟩)∧Grew w w':=by
 have CM:=hQ9 (kO A c l hl hp w hs hr)
 have hnl:=xz l hp
 have hbl:(Lib.join ((l.map numS).map (·.data.toList)) (⟨#[44]⟩:ByteArray).data.toList).length≤140737488355328:=by
  have:(l.map numS).map (·.data.toList)=l.map Lib.itoa:=by rw [List.map_map];apply List.map_congr_left;intro x _;simp [numS]
  rw [this,show(⟨#[44]⟩:ByteArray).data.toList=[44] from rfl,yg]
  show(nums l).length≤_
  omega
 have hbe:Hid (Lib.join ((l.map numS).map (·.data.toList)) (⟨#[44]⟩:ByteArray).data.toList=nums l):=hQ9 (by
  have:(l.map numS).map (·.data.toList)=l.map Lib.itoa:=by rw [List.map_map];apply List.map_congr_left;intro x _;simp [numS]
  rw [this,show(⟨#[44]⟩:ByteArray).data.toList=[44] from rfl,yg];rfl)
 by_cases hz:l.length=0
 ·obtain rfl:l=[]:=List.length_eq_zero_iff.1 hz
  go_enter Tryz.func231,Tryz.ntmps231
  go_wp2_with(first
   | (go_at_call 268;refine(CM.out).mono ?_;rintro e w1 ⟨v,rfl,hrow,hg⟩;obtain⟨A1,c1,rfl,_,_,_⟩:=zG hrow)
   | (go_at_call 206;refine(Tryz.strings_Join_none A1 c1 _ _).mono ?_;rintro e w' ⟨rfl,hw⟩;have hw:=hw.symm;subst hw))
  go_ret
  exact⟨rfl,hg⟩
 ·go_enter Tryz.func231,Tryz.ntmps231
  go_wp2_with(first
   | (go_at_call 268;refine(CM.out).mono ?_;rintro e w1 ⟨v,rfl,hrow,hg⟩;obtain⟨g,c1,rfl,hcap,hgs,hcs⟩:=xe hrow (by omega))
   | (go_at_call 206;have cJ:=Tryz.strings_Join g 0 c1 (l.map numS) ⟨#[44]⟩ w1 (fun j x hx=>hcs j (.string x) (by rw [List.getElem?_map,hx];rfl)) hgs (by rw [List.length_map];omega) (by rw [List.length_map];exact hcap) hbl;rw [List.length_map,hbe.out]at cJ;refine cJ.mono ?_;rintro e w2 ⟨rfl,hg2⟩))
  go_ret
  exact⟨rfl,zb hg hg2⟩
end Go.Proofs.YtkpnheenacchhaaGreatDoor
