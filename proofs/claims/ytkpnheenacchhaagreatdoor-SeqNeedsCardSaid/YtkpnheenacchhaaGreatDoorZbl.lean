/- key.parseUpTo; key.Parse of a signature's words. -/
import Derived.Test.YtkpnheenacchhaaGreatDoorZzz
import Derived.Test.YtkpnheenacchhaaGreatDoorZbg
import Derived.Test.YtkpnheenacchhaaGreatDoorZbh
import Derived.Test.YtkpnheenacchhaaGreatDoorZbj
import Derived.Test.YtkpnheenacchhaaGreatDoorZau
import Derived.Test.YtkpnheenacchhaaGreatDoorZag
import Derived.Test.YtkpnheenacchhaaGreatDoorZaj
import Derived.Test.YtkpnheenacchhaaGreatDoorZap
set_option maxRecDepth 100000
set_option linter.unusedSimpArgs false
set_option linter.unusedVariables false
namespace Go.Proofs.YtkpnheenacchhaaGreatDoor
open Go.RowKit
def uptoB (s:List UInt8) (m:Int):Bool:=decide ((pnum s).2=0∧0≤(pnum s).1∧(pnum s).1≤m)
theorem jl (s:ByteArray) (hs:s.size≤1048576) (m:Int) (w:World) (hS:Std w) :
 Calls Tryz.prog 152 #[.string s,.int .i64 m] w fun e w'=>e=.returned (.tuple #[.int .i64 (pnum s.data.toList).1,.bool (uptoB s.data.toList m)])∧Grew w w':=by
 have CP:=hQ9 (jy s (by omega) w hS)
 unfold uptoB
 obtain⟨v,ev,hp⟩:∃ v ev,pnum s.data.toList=(v,ev):=⟨_,_,rfl⟩
 rw [hp]at CP ⊢
 dsimp only at CP ⊢
 clear hp hS
 by_cases h1:ev=0
 ·have e1:(ev==0)=true:=by simpa using h1
  by_cases h2:0≤v
  ·by_cases h3:v≤m
   ·rw [decide_eq_true ⟨h1,h2,h3⟩]
    clear h1
    go_enter Tryz.func152,Tryz.ntmps152
    go_wp2_with(go_at_call 81;refine(CP.out).mono ?_;rintro e w1 ⟨rfl,g1⟩)
    go_ret2
    exact⟨rfl,g1⟩
   ·rw [decide_eq_false (fun h=>h3 h.2.2)]
    have d3:decide (v≤m)=false:=decide_eq_false h3
    clear h1 h3
    go_enter Tryz.func152,Tryz.ntmps152
    go_wp2_with(go_at_call 81;refine(CP.out).mono ?_;rintro e w1 ⟨rfl,g1⟩)
    go_ret2
    exact⟨rfl,g1⟩
  ·rw [decide_eq_false (fun h=>h2 h.2.1)]
   clear h1
   go_enter Tryz.func152,Tryz.ntmps152
   go_wp2_with(go_at_call 81;refine(CP.out).mono ?_;rintro e w1 ⟨rfl,g1⟩)
   go_ret2
   exact⟨rfl,g1⟩
 ·have e1:(ev==0)=false:=by simpa using h1
  rw [decide_eq_false (fun h=>h1 h.1)]
  clear h1
  go_enter Tryz.func152,Tryz.ntmps152
  go_wp2_with(go_at_call 81;refine(CP.out).mono ?_;rintro e w1 ⟨rfl,g1⟩)
  go_ret2
  exact⟨rfl,g1⟩
theorem zc8:∀ x:Fin 16,hexDig x.val≠44:=by decide
theorem zg5 (n:Nat):∀ c∈hexL n,c≠44:=by
 intro c hc
 obtain⟨j,_,rfl⟩:=List.mem_map.1 hc
 exact zc8 ⟨n / 16^(15-j)%16,Nat.mod_lt _ (by decide)⟩
theorem qv (l:List Nat) (hb:∀ n∈l,n<18446744073709551616):pdigs (digs l)=some l:=by
 cases l with
 | nil=>exact if_pos rfl
 | cons a l =>
  have hs:splitC (digs (a::l))=(a::l).map hexL:=zba _ (by simp) (fun x hx=>by
   obtain⟨n,_,rfl⟩:=List.mem_map.1 hx
   exact zg5 n)
  have hne:digs (a::l)≠[]:=by
   intro h
   rw [h]at hs
   have h1:=congrArg List.length hs
   have h2:([]:List UInt8)=hexL a:=by
    have:=congrArg List.head? hs
    simpa [splitC]using this
   have:=congrArg List.length h2
   rw [zW]at this
   simp at this
  rw [qt hne (by
   rw [hs]
   intro x hx
   obtain⟨n,hn,rfl⟩:=List.mem_map.1 hx
   rw [xR n (hb n hn)];exact fun h=>by cases h),hs]
  congr 1
  unfold valsD
  rw [List.map_map]
  conv=>rhs;rw [←List.map_id (a::l)]
  apply List.map_congr_left
  intro n hn
  simp [xR n (hb n hn)]
end Go.Proofs.YtkpnheenacchhaaGreatDoor
