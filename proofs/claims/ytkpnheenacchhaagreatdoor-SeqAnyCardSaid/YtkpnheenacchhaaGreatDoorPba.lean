/- The reference's ParseNum. -/
import Derived.Test.YtkpnheenacchhaaGreatDoorPzz
import Derived.Deep.DeepCutAuto
import Derived.Deep.CutBlock
import Derived.Test.YtkpnheenacchhaaGreatDoorPat
import Derived.Laws.MakeOwn
import Derived.Test.YtkpnheenacchhaaGreatDoorPau
import Derived.RegionTactic
import Derived.BigRegion
import Derived.Test.YtkpnheenacchhaaGreatDoorPan
import Derived.Test.YtkpnheenacchhaaGreatDoorPaw
import Derived.Test.YtkpnheenacchhaaGreatDoorPaj
set_option maxHeartbeats 1000000
set_option maxRecDepth 100000
set_option linter.unusedSimpArgs false
set_option linter.unusedVariables false
namespace Go.Proofs.YtkpnheenacchhaaGreatDoor
open Go.RowKit
def pnumRes (l:List UInt8):Value:=.tuple #[.int .i64 (pnum l).1,.int .i64 (pnum l).2]
theorem zj7 (l:List Int) (n:Int) (h:l≠[]):nums (l++[n])=nums l++44::Lib.itoa n:=by
 unfold nums
 cases l with
 | nil=>exact absurd rfl h
 | cons x l =>
  simp only [List.cons_append,List.map_cons]
  rw [xL,xL]
  simp
theorem zea (l:List Int) (k:Nat) (h:∀ x∈l,in64 x):(nums (l.take k)).length≤l.length*21:=by
 have h1:=zad (l.take k) (fun x hx=>h x (List.mem_of_mem_take hx))
 have h2:(l.take k).length≤l.length:=by rw [List.length_take];omega
 have h3:(l.take k).length*21≤l.length*21:=Nat.mul_le_mul_right 21 h2
 omega
theorem zm5 (A:Option Addr) (c:Nat) (l:List Int) (hl:l.length≤1048576) (hp:∀ x∈l,in64 x) (w:World) (hr:Rd w w.heap.size A (i64L l)) :
 Calls Tryz.prog 265 #[.slice A l.length c] w fun e w'=>e=.returned (.string ⟨(nums l).toArray⟩)∧Grew w w':=by
 have HPP:=hQ9 hp
 clear hp
 go_enter Tryz.func265,Tryz.ntmps265
 go_wp2_with fail
 go_loopw [3,4] (fun sv iv wr=>∃(k:Nat) (t:List UInt8),k≤l.length∧iv=.int .i64 k∧sv=.string ⟨t.toArray⟩∧Hid (t=nums (l.take k))∧Grew w wr) (fun _ iv _=>l.length-(intOf iv).toNat)
 case atStart=>exact⟨0,[],Nat.zero_le _,rfl,rfl,hQ9 rfl,za w⟩
 case round =>
  obtain⟨k,t,hk,rfl,rfl,HT,hg⟩:=hrel
  by_cases hlt:k<l.length
  ·obtain⟨ad,rfl,hbl,hc0⟩:=jV (hr.below hg) k hlt
   have hk0:(0:Int)≤(k:Int):=by omega
   have hk1:(k:Int)<(l.length:Int):=by omega
   have e1:IntKind.i64.wrap ((k:Int)+1)=((k+1:Nat):Int):=by rw [IntWalk.i64_in _ (by omega)];omega
   have HK:=hQ9 hlt
   have htl:t.length≤22020096:=by
    have:=zea l k HPP.out
    rw [HT.out];omega
   have HN:Hid (l.take (k+1)=l.take k++[l[k]]):=hQ9 (List.take_succ_eq_append_getElem hlt)
   have hpx:=HPP.out l[k] (List.getElem_mem hlt)
   have cR:=fun W=>xx l[k] hpx.1 hpx.2 W
   have hil:=ym hpx.1 hpx.2
   generalize l[k]=x at *
   have CR:=hQ9 cR
   clear cR hpx
   by_cases hz:k=0
   ·have hkn:¬(0:Int)<(k:Int):=by omega
    have happ:=xX t (Lib.itoa x)
    have HR:Hid (t++Lib.itoa x=nums (l.take (k+1))):=hQ9 (by rw [HN.out,HT.out,hz];rfl)
    clear hz
    go_wp2_with(first | (go_at_call 95;refine(CR.out _).mono ?_;rintro e w3 ⟨rfl,hg3⟩))
    go_roundw
    case rel=>exact⟨k+1,_,by have:=HK.out;omega,by go_num,rfl,HR,zb hg hg3⟩
    case measure=>have h9:=HK.out;simp [intOf];omega
   ·have hkp:(0:Int)<(k:Int):=by omega
    have hne:l.take k≠[]:=by
     intro e
     have h9:(l.take k).length=k:=by rw [List.length_take];omega
     rw [e]at h9
     exact hz h9.symm
    have happ1:=xX t [44]
    have happ:=xX (t++[44]) (Lib.itoa x)
    have HR:Hid ((t++[44])++Lib.itoa x=nums (l.take (k+1))):=hQ9 (by
     rw [HN.out,HT.out,zj7 _ _ hne]
     exact List.append_assoc _ _ _)
    clear hne
    have htl2:(t++[44]).length≤22020097:=by rw [List.length_append];simp;omega
    go_wp2_with(first | (go_at_call 95;refine(CR.out _).mono ?_;rintro e w3 ⟨rfl,hg3⟩))
    go_roundw
    case rel=>exact⟨k+1,_,by have:=HK.out;omega,by go_num,rfl,hQ9 ((List.append_assoc _ _ _).symm.trans HR.out),zb hg hg3⟩
    case measure=>have h9:=HK.out;simp [intOf];omega
  ·obtain rfl:k=l.length:=by omega
   rw [List.take_length]at HT
   go_wp2_with fail
   go_ret
   exact⟨by rw [HT.out];rfl,hg⟩
/-! parts: between commas -/
theorem Rd.grew {w w':World} {A:Option Addr} {xs:List Value} (h:Rd w w.heap.size A xs) (hb:Grew w w'):Rd w' w'.heap.size A xs:=(h.below hb).more hb.size
theorem jr {s:ByteArray} {l:List (List UInt8)} (h:splitF s.data.toList=some l) (hl:l.length≤4096) (hs:s.size≤100000000) (w:World) :
 Calls Tryz.prog 80 #[.string s] w fun e w'=>(∃ v,e=.returned (.tuple #[v,.int .i64 0])∧w'.ownsRow w.heap.size 9 1 v l.length (strL (txt l)))∧Grew w w' :=
 (zac s hs w).mono fun e w' ⟨hh,hg⟩=>by
  refine⟨?_,hg⟩
  rcases hh with ⟨h1,_⟩ | ⟨l',h1,h2⟩
  ·rw [h]at h1;cases h1
  ·rw [h]at h1
   injection h1 with h1
   subst h1
   rcases h2 with ⟨h3,_⟩ | ⟨_,h4⟩
   ·omega
   ·exact h4
end Go.Proofs.YtkpnheenacchhaaGreatDoor
