/- twice, doubled. -/
import Derived.Test.YtkpnheenacchhaaGreatDoorYzz
import Derived.Laws.MakeOwn
import Derived.Test.YtkpnheenacchhaaGreatDoorYau
import Derived.Test.YtkpnheenacchhaaGreatDoorYat
import Derived.RegionTactic
import Derived.BigRegion
import Derived.Test.YtkpnheenacchhaaGreatDoorYan
import Derived.Test.YtkpnheenacchhaaGreatDoorYaw
import Derived.Test.YtkpnheenacchhaaGreatDoorYaj
import Derived.Test.YtkpnheenacchhaaGreatDoorYas
set_option maxHeartbeats 1000000
set_option maxRecDepth 100000
set_option linter.unusedSimpArgs false
set_option linter.unusedVariables false
namespace Go.Proofs.YtkpnheenacchhaaGreatDoor
open Go.RowKit
def tw (n:Int):Int:=wrap64 (2*n)
/-! parts: between commas -/
def parP (S:List UInt8) (k:Nat) (done:List (List UInt8)) (cur:List UInt8):Prop:=∀ r,splitC (S.take k++r)=done++(match splitC r with | []=>[cur] | x::l=>(cur++x)::l)
theorem parP_0 (S:List UInt8):parP S 0 [] []:=by
 intro r
 cases h:splitC r with
 | nil=>exact absurd h (xI r)
 | cons x l=>simp [h]
theorem zh1 {S:List UInt8} {k:Nat} {done:List (List UInt8)} {cur:List UInt8} (h:parP S k done cur) (hk:k<S.length) (hc:S[k]=44):parP S (k+1) (done++[cur]) []:=by
 intro r
 rw [List.take_succ_eq_append_getElem hk,hc,List.append_assoc,h]
 show done++(match splitC (44::r)with | []=>[cur] | x::l=>(cur++x)::l)=_
 rw [splitC,if_pos rfl]
 cases h2:splitC r with
 | nil=>exact absurd h2 (xI r)
 | cons x l=>simp
theorem zh2 {S:List UInt8} {k:Nat} {done:List (List UInt8)} {cur:List UInt8} (h:parP S k done cur) (hk:k<S.length) (hc:S[k]≠44):parP S (k+1) done (cur++[S[k]]):=by
 intro r
 rw [List.take_succ_eq_append_getElem hk,List.append_assoc,h]
 show done++(match splitC (S[k]::r)with | []=>[cur] | x::l=>(cur++x)::l)=_
 rw [splitC,if_neg hc]
 cases h2:splitC r with
 | nil=>exact absurd h2 (xI r)
 | cons x l=>simp
theorem zl1 {S:List UInt8} {done:List (List UInt8)} {cur:List UInt8} (h:parP S S.length done cur):splitC S=done++[cur]:=by
 have:=h []
 simpa [splitC]using this
theorem zfk (s:ByteArray) (k:Nat) (h:k<s.size):s.extract k (k+1)=⟨[s[k]].toArray⟩:=by
 rw [Lib.extract_eq]
 congr 2
 have hk:k<s.data.toList.length:=by rw [ye];exact h
 rw [List.drop_eq_getElem_cons hk,show k+1-k=1 from by omega,List.take_succ_cons,List.take_zero]
 rfl
theorem zl2 (s:ByteArray) (hs:s.size≤1048576) (w:World) :
 Calls Tryz.prog 208 #[.string s] w fun e w'=>∃ v,e=.returned v∧w'.ownsRow w.heap.size 9 1 v (splitC s.data.toList).length (strL (txt (splitC s.data.toList)))∧Grew w w':=by
 obtain⟨i1,hj,hy0,hy1,hy2⟩:=info_parts jD
 have hsl:=hQ9 (ye s)
 go_enter Tryz.func208,Tryz.ntmps208
 go_wp2_with fail
 have hown0:(w.alloc (.cells #[.string ⟨#[]⟩] 9)).ownsRow w.heap.size 9 1 (.slice (some ⟨w.heap.size,0,none⟩) 1 1) 1 (strL (txt ([]++[[]]))):=World.ownsRow_lit w #[.string ⟨#[]⟩] 1 (Nat.le_refl _) (by decide) rfl
 go_loopw [3,4] (fun ov iv wr=>∃(k:Nat) (done:List (List UInt8)) (cur:List UInt8),k≤s.size∧done.length≤k∧cur.length≤k∧iv=.int .i64 k∧Hid (parP s.data.toList k done cur)∧wr.ownsRow w.heap.size 9 1 ov (done.length+1) (strL (txt (done++[cur])))∧Grew w wr) (fun _ iv _=>s.size-(intOf iv).toNat)
 case atStart=>exact⟨0,[],[],Nat.zero_le _,Nat.le_refl _,Nat.le_refl _,rfl,hQ9 (parP_0 _),hown0,zg (za w) _⟩
 case round =>
  obtain⟨k,done,cur,hk,hdk,hck,rfl,HP,hoo,hg⟩:=hrel
  have hgz:=hg.size
  by_cases hlt:k<s.size
  ·have hk0:(0:Int)≤(k:Int):=by omega
   have hk1:(k:Int)<(s.size:Int):=by omega
   have e1:IntKind.i64.wrap ((k:Int)+1)=((k+1:Nat):Int):=by rw [IntWalk.i64_in _ (by omega)];omega
   have HLT:=hQ9 (show k<s.data.toList.length by rw [hsl.out];exact hlt)
   have HK1:=hQ9 hk1
   by_cases ha:((s[k]'hlt).toNat:Int)=44
   ·have HN:=hQ9 (zh1 HP.out HLT.out (by rw [zU s k hlt HLT.out];exact u8_eq _ 44 (by omega) ha))
    have HT:Hid (strL (txt ((done++[cur])++[[]]))=strL (txt (done++[cur]))++[.string ⟨#[]⟩]):=hQ9 (by rw [ka])
    go_wp2_with(at_builtin;refine zl rfl (.tmp 16) (.tmp 17) 161 rfl w.heap.size 9 i1 (.string ⟨#[]⟩) 16 Tryz.underlying161 hj hy0 hy1 hy2 rfl _ (done.length+1) _ rfl (hoo.alloc _) (wr.heap.size+1) (some ⟨wr.heap.size,0,none⟩) 1 1 [.string ⟨#[]⟩] rfl rfl (zR wr 9 #[.string ⟨#[]⟩] (0,0)) (yf rfl) (by unfold maxLen;omega) (by omega) (by simp;omega) ?_;intro v6 w6 hown6 hgrow6 _;have hg6:=zP hg hgrow6 (zo hoo))
    go_roundw
    case rel=>exact⟨k+1,done++[cur],[],by have:=HK1.out;omega,by simp;omega,by simp,by go_num,HN,by rw [HT.out,List.length_append];exact hown6,hg6⟩
    case measure=>have h9:=HK1.out;simp [intOf];omega
   ·have HN:=hQ9 (zh2 HP.out HLT.out (by rw [zU s k hlt HLT.out];intro h;exact ha (by rw [h];rfl)))
    have hab:(((s[k]'hlt).toNat:Int)==44)=false:=by simpa using ha
    obtain⟨g,cap,rfl⟩:=ownsRow_succ hoo
    obtain⟨n,hn⟩:∃ n,done.length=n:=⟨_,rfl⟩
    rw [hn]at hdk hoo ⊢
    have hc:=hoo.cellAt n (by omega)
    have hf:=hoo.frozenAt n
    have hat:(strL (txt (done++[cur])))[n]?=some (.string ⟨cur.toArray⟩):=by
     rw [←hn];simp [strL,txt]
    rw [hat]at hc
    obtain⟨hst,hgs⟩:=hoo.stored n (.string ⟨(cur++[s[k]'hlt]).toArray⟩)
    have hset:(strL (txt (done++[cur]))).set n (.string ⟨(cur++[s[k]'hlt]).toArray⟩)=strL (txt (done++[cur++[s[k]'hlt]])):=by
     rw [←hn];simp [strL,txt]
    rw [hset]at hst
    have hix:(((n+1:Nat):Int)-1)=(n:Int):=by omega
    have hnn:(0:Int)≤(n:Int):=by omega
    have hex:=zfk s k hlt
    have happ:=kJ cur [s[k]'hlt]
    have hle:(k:Int)≤(k:Int)+1:=by omega
    have hle2:(k:Int)+1≤(s.size:Int):=by omega
    have hle3:(0:Int)≤(k:Int)+1:=by omega
    have hle4:((k:Int)+1).toNat=k+1:=by omega
    have hwn:IntKind.i64.wrap (n:Int)=(n:Int):=IntWalk.i64_in _ (by omega)
    have hn1:(n:Int)<(n:Int)+1:=by omega
    have hcu:cur.length+1≤9223372036854775807:=by omega
    have HST:=hQ9 hst
    have HGS:=hQ9 hgs
    have HHN:=hQ9 hn
    clear hst hgs hn hset hat
    go_wp2_with fail
    go_region
    go_wp2_with fail
    go_roundw
    case rel =>
     refine⟨k+1,done,cur++[s[k]'hlt],by have:=HK1.out;omega,by have:=HHN.out;omega,by rw [List.length_append];simp;omega,by go_num,HN,?_,?_⟩
     ·rw [HHN.out];exact HST.out
     ·exact(hg.grown HGS.out (by omega) (fun j hj=>by injection hj with hj;have:=(zT hoo g rfl).1;omega)).drew
    case measure=>have h9:=HK1.out;simp [intOf];omega
  ·obtain rfl:k=s.size:=by omega
   have hend:=zl1 (S:=s.data.toList) (by rw [hsl.out];exact HP.out)
   have HE:=hQ9 hend
   clear hend
   obtain⟨g,cap,rfl⟩:=ownsRow_succ hoo
   go_wp2_with fail
   go_ret
   exact⟨_,rfl,by rw [HE.out,List.length_append];exact hoo,hg⟩
theorem Rd.grew {w w':World} {A:Option Addr} {xs:List Value} (h:Rd w w.heap.size A xs) (hb:Grew w w'):Rd w' w'.heap.size A xs:=(h.below hb).more hb.size
theorem ja {s:ByteArray} {l:List (List UInt8)} (h:splitF s.data.toList=some l) (hl:l.length≤4096) (hs:s.size≤100000000) (w:World) :
 Calls Tryz.prog 80 #[.string s] w fun e w'=>(∃ v,e=.returned (.tuple #[v,.int .i64 0])∧w'.ownsRow w.heap.size 9 1 v l.length (strL (txt l)))∧Grew w w' :=
 (qS s hs w).mono fun e w' ⟨hh,hg⟩=>by
  refine⟨?_,hg⟩
  rcases hh with ⟨h1,_⟩ | ⟨l',h1,h2⟩
  ·rw [h]at h1;cases h1
  ·rw [h]at h1
   injection h1 with h1
   subst h1
   rcases h2 with ⟨h3,_⟩ | ⟨_,h4⟩
   ·omega
   ·exact h4
end Go.Proofs.YtkpnheenacchhaaGreatDoor
