/- The reference's parseHexes, of whatever text. -/
import Derived.Test.YtkpnheenacchhaaGreatDoorYzz
import Derived.Test.YtkpnheenacchhaaGreatDoorYbf
import Derived.Test.YtkpnheenacchhaaGreatDoorYbi
import Derived.Test.YtkpnheenacchhaaGreatDoorYbc
set_option maxHeartbeats 1000000
set_option maxRecDepth 100000
set_option linter.unusedSimpArgs false
set_option linter.unusedVariables false
namespace Go.Proofs.YtkpnheenacchhaaGreatDoor
open Go.RowKit
theorem kt (s:ByteArray) (hs:s.size≤1048576) (w:World) :
 Calls Tryz.prog 157 #[.string s] w fun e w'=>(∃ v,e=.returned (.tuple #[v,.bool (pdigs s.data.toList).isSome])∧w'.ownsRow w.heap.size 65 1 v ((pdigs s.data.toList).getD []).length (u64L ((pdigs s.data.toList).getD [])))∧Grew w w':=by
 by_cases hz:s.size=0
 ·obtain rfl:=xx hz
  go_enter Tryz.func157,Tryz.ntmps157
  go_wp2_with fail
  have hp:pdigs (⟨#[]⟩:ByteArray).data.toList=some []:=if_pos rfl
  rw [hp]
  go_ret2
  exact⟨⟨_,rfl,World.ownsRow_nil _ _ _ _⟩,za _⟩
 ·have hne:s.data.toList≠[]:=fun h=>hz (by rw [←ye,h];rfl)
  obtain⟨i0,hi,hz0,hz1,hz2⟩:=info_parts infoU
  have CP:=hQ9 (zl2 s hs w)
  obtain⟨L,hL⟩:∃ L,splitC s.data.toList=L:=⟨_,rfl⟩
  have hLl:L.length≤1048577:=by
   rw [←hL]
   have:=zaw s.data.toList
   rw [ye]at this
   omega
  have HB:Hid (∀ x∈L,parseO x=none→pdigs s.data.toList=none):=hQ9 (fun x hx h2=>zch hne x (by rw [hL];exact hx) h2)
  have HG:Hid (allD L→pdigs s.data.toList=some (valsD L)):=hQ9 (fun ha=>by have:=kZ hne (by rw [hL];exact ha);rwa [hL]at this)
  rw [hL]at CP
  have e0:s.toList.isEmpty=false:=by
   rw [ByteArray.toList_eq]
   cases hh:s.data.toList with
   | nil=>exact absurd hh hne
   | cons a l=>rfl
  clear hL hz hne
  generalize pdigs s.data.toList=res at *
  go_enter Tryz.func157,Tryz.ntmps157
  go_wp2_with fail
  refine(CP.out).mono ?_
  rintro e w1 ⟨v1,rfl,o1,G1⟩
  obtain⟨A1,c1,rfl,-,-,r1⟩:=zK o1
  clear CP e0 o1
  go_wp2_with fail
  go_loopw [5,6] (fun dv iv wr=>∃(k:Nat) (v:Value),v=dv∧k≤L.length∧iv=.int .i64 k∧wr.ownsRow w1.heap.size 65 1 v k (u64L (valsD (L.take k)))∧(∀ x∈L.take k,parseO x≠none)∧Grew w1 wr) (fun _ iv _=>L.length-(intOf iv).toNat)
  case atStart=>exact⟨0,_,rfl,Nat.zero_le _,rfl,World.ownsRow_nil _ _ _ _,by simp,za _⟩
  case round =>
   obtain⟨k,v,hv,hk,rfl,hown,hall,gw⟩:=hrel
   have hgz:=gw.size
   have hg1z:=G1.size
   subst hv
   have hk0:(0:Int)≤(k:Int):=by omega
   by_cases hlt:k<L.length
   ·have hk1:(k:Int)<(L.length:Int):=by omega
    have e1:IntKind.i64.wrap ((k:Int)+1)=((k+1:Nat):Int):=by rw [IntWalk.i64_in _ (by omega)];omega
    have hlt':k<(strL (txt L)).length:=by simpa [strL,txt]using hlt
    obtain⟨ad,hA,-,hc⟩:=(r1.below gw) k hlt'
    subst hA
    have hc2:wr.cell? (ad.add k)=some (.string ⟨(L[k]'hlt).toArray⟩):=by rw [hc];simp [strL,txt]
    have hmem:L[k]'hlt∈L:=List.getElem_mem hlt
    have hts:L.take (k+1)=L.take k++[L[k]'hlt]:=List.take_succ_eq_append_getElem hlt
    have HK:=hQ9 hlt
    have CR:=zan ⟨(L[k]'hlt).toArray⟩ wr
    rw [show(⟨(L[k]'hlt).toArray⟩:ByteArray).data.toList=L[k]'hlt from by simp]at CR
    clear hc hlt'
    generalize hx:L[k]'hlt=x at hc2 hmem hts CR
    clear hx hlt
    cases hp:parseO x with
    | none =>
     have hr:=HB.out x hmem hp
     rw [hp]at CR
     have CR2:=hQ9 (show Calls Tryz.prog 91 #[.string ⟨x.toArray⟩] wr fun e w'=>e=.returned (.tuple #[.int .u64 0,.int .i64 2])∧wr=w' from CR)
     clear CR hp hmem hts hall
     subst hr
     generalize (⟨x.toArray⟩:ByteArray)=tx at *
     go_wp2_with(go_at_call 91;refine(CR2.out).mono ?_;rintro e w5 ⟨rfl,rfl⟩)
     go_ret2
     exact⟨⟨_,rfl,World.ownsRow_nil _ _ _ _⟩,ze G1 gw⟩
    | some d =>
     rw [hp]at CR
     have CR2:=hQ9 (show Calls Tryz.prog 91 #[.string ⟨x.toArray⟩] wr fun e w'=>e=.returned (.tuple #[.int .u64 (d:Nat),.int .i64 0])∧wr=w' from CR)
     have HT:Hid (u64L (valsD (L.take (k+1)))=u64L (valsD (L.take k))++[Value.int .u64 (d:Nat)]∧∀ y∈L.take (k+1),parseO y≠none):=hQ9 ⟨by rw [hts,za1,hp];simp [u64L],fun y hy=>by
      rw [hts]at hy
      rcases List.mem_append.1 hy with h | h
      ·exact hall y h
      ·have:y=x:=by simpa using h
       rw [this,hp];simp⟩
     clear CR hp hmem hts hall
     generalize (⟨x.toArray⟩:ByteArray)=tx at *
     have HGP:Hid (∀ w6,(wr.alloc (.cells #[.int .u64 (d:Nat)] 65)).grownBy w6 (Value.ownBlock v)→Grew w1 w6):=hQ9 (fun w6 h6=>zP gw h6 (zo hown))
     go_wp2_with(first
      | (go_at_call 91;refine(CR2.out).mono ?_;rintro e w5 ⟨rfl,rfl⟩)
      | (at_builtin;refine zl rfl (.tmp 29) (.tmp 31) 62 rfl w1.heap.size 65 i0 (.int .u64 0) 8 Tryz.underlying62 hi hz0 hz1 hz2 rfl v k _ rfl (hown.alloc _) (wr.heap.size+1) (some ⟨wr.heap.size,0,none⟩) 1 1 [Value.int .u64 (d:Nat)] rfl rfl (zR wr 65 #[Value.int .u64 (d:Nat)] (0,0)) (yf rfl) (by unfold maxLen;omega) (by omega) (by simp;omega) ?_;intro v6 w6 hown6 hgrow6 _;have hg6:=HGP.out w6 hgrow6))
     go_roundw
     case rel=>exact⟨k+1,_,rfl,by have:=HK.out;omega,by go_num,by rw [HT.out.1];exact hown6,HT.out.2,hg6⟩
     case measure=>have h9:=HK.out;simp [intOf];omega
   ·obtain rfl:k=L.length:=by omega
    have hr:=HG.out (fun x hx=>hall x (by rw [List.take_length];exact hx))
    rw [List.take_length]at hown
    have hvl:(valsD L).length=L.length:=by simp [valsD]
    subst hr
    have HO:=hQ9 hown
    clear hown hall
    go_wp2_with fail
    go_ret2
    exact⟨⟨_,rfl,ke HO.out hg1z⟩,ze G1 gw⟩
end Go.Proofs.YtkpnheenacchhaaGreatDoor
