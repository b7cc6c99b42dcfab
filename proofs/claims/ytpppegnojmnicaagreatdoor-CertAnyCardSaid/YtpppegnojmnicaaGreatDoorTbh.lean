/- Maps whose elements are kept as they are. -/
import Derived.Test.YtpppegnojmnicaaGreatDoorTzz
import Derived.Maps.OwnSet
import Derived.Maps.OwnOps
import Derived.Maps.Views
import Derived.Test.YtpppegnojmnicaaGreatDoorProg
import Derived.Laws.MakeOwn
import Derived.Test.YtpppegnojmnicaaGreatDoorTat
import Derived.Test.YtpppegnojmnicaaGreatDoorTas
import Derived.RegionTactic
import Derived.BigRegion
import Derived.Test.YtpppegnojmnicaaGreatDoorTal
import Derived.Test.YtpppegnojmnicaaGreatDoorTav
import Derived.Test.YtpppegnojmnicaaGreatDoorTai
import Derived.Test.YtpppegnojmnicaaGreatDoorTar
set_option maxHeartbeats 1000000
set_option maxRecDepth 100000
set_option linter.unusedSimpArgs false
set_option linter.unusedVariables false
namespace Go.Proofs.YtpppegnojmnicaaGreatDoor
open Go.RowKit Go.Maps
def heldR (v:Value):Option (DataW Value × List MemPlace):=some (.held v,[])
section
variable {P : Program}
theorem xH (w:World) {ops:Array Oper} {rest:List Oper} {o:Oper} {a:Act} {Q:Exit→Act→World→Prop} (hg:o.guard=none) (m x:Operand) (t:TypeId) (hop:o.op=Op.lookup t m x true)
 (k e:TypeId) (K:Keyed P k) (ht:P.underlying t=some (.map k e)) {z:Value} (hz:(zeroValue e).run P w=.ok z w) (b n:Nat) (D:DataW Value)
 (hm:a.eval m=.map (some b)) (hown:w.ownsMap P k heldR b n D) (key:Value) (kl:Lit) (hx:a.eval x=key) (hkey:keyOf P k key=some kl)
 (u:Value) (hu:D.atKey kl (.held z)=.held u) (hb:Bool) (hh:Maps.has D kl=hb)
 (hK:wpList P ops Q rest (a.put o.dst (.tuple #[u,.bool hb])) w):wpList P ops Q (o::rest) a w :=
 wpList_lookup_own_ok w hg m x t hop k e K ht heldR hz (.held z) [] rfl b n D hm hown key kl hx hkey (fun v ps hv=>by
  have h1:DataW.held v=D.atKey kl (.held z):=by
   unfold heldR at hv;injection hv with hv;exact(Prod.mk.inj hv).1
  rw [hu]at h1;injection h1 with h1;subst h1;rw [hh];exact hK)
theorem qO (w:World) {ops:Array Oper} {rest:List Oper} {o:Oper} {a:Act} {Q:Exit→Act→World→Prop} (hg:o.guard=none) (m x:Operand) (t:TypeId) (hop:o.op=Op.lookup t m x false)
 (k e:TypeId) (K:Keyed P k) (ht:P.underlying t=some (.map k e)) {z:Value} (hz:(zeroValue e).run P w=.ok z w) (b n:Nat) (D:DataW Value)
 (hm:a.eval m=.map (some b)) (hown:w.ownsMap P k heldR b n D) (key:Value) (kl:Lit) (hx:a.eval x=key) (hkey:keyOf P k key=some kl)
 (u:Value) (hu:D.atKey kl (.held z)=.held u)
 (hK:wpList P ops Q rest (a.put o.dst u) w):wpList P ops Q (o::rest) a w:=by
 refine wpList_plain hg fun K' hK'=>?_
 obtain⟨v,ps,hrun,hv⟩:=hown.lookup K ht hz (zd:=.held z) (zp:=[]) rfl hkey
 have h1:DataW.held v=D.atKey kl (.held z):=by
  unfold heldR at hv;injection hv with hv;exact(Prod.mk.inj hv).1
 rw [hu]at h1;injection h1 with h1;subst h1
 unfold Oper.wp
 simp [execOp,hop,hm,hx,hrun,Result.andThen]
 exact hK' _ _ hK
end
end Go.Proofs.YtpppegnojmnicaaGreatDoor
namespace Go.Proofs.YtpppegnojmnicaaGreatDoor
open Go.RowKit
theorem zmq (l:List Int) (n:Int) (h:l≠[]):nums (l++[n])=nums l++44::Lib.itoa n:=by
 unfold nums
 cases l with
 | nil=>exact absurd rfl h
 | cons x l =>
  simp only [List.cons_append,List.map_cons]
  rw [x8,x8]
  simp
theorem zgm (l:List Int) (k:Nat) (h:∀ x∈l,in64 x):(nums (l.take k)).length≤l.length*21:=by
 have h1:=za7 (l.take k) (fun x hx=>h x (List.mem_of_mem_take hx))
 have h2:(l.take k).length≤l.length:=by rw [List.length_take];omega
 have h3:(l.take k).length*21≤l.length*21:=Nat.mul_le_mul_right 21 h2
 omega
theorem zpn (A:Option Addr) (c:Nat) (l:List Int) (hl:l.length≤1048576) (hp:∀ x∈l,in64 x) (w:World) (hr:Rd w w.heap.size A (i64L l)) :
 Calls Tryz.prog 172 #[.slice A l.length c] w fun e w'=>e=.returned (.string ⟨(nums l).toArray⟩)∧Grew w w':=by
 have HPP:=hQ9 hp
 clear hp
 go_enter Tryz.func172,Tryz.ntmps172
 go_wp2_with fail
 go_loopw [3,4] (fun sv iv wr=>∃(k:Nat) (t:List UInt8),k≤l.length∧iv=.int .i64 k∧sv=.string ⟨t.toArray⟩∧Hid (t=nums (l.take k))∧Grew w wr) (fun _ iv _=>l.length-(intOf iv).toNat)
 case atStart=>exact⟨0,[],Nat.zero_le _,rfl,rfl,hQ9 rfl,za w⟩
 case round =>
  obtain⟨k,t,hk,rfl,rfl,HT,hg⟩:=hrel
  by_cases hlt:k<l.length
  ·obtain⟨ad,rfl,hbl,hc0⟩:=yJ (hr.below hg) k hlt
   have hk0:(0:Int)≤(k:Int):=by omega
   have hk1:(k:Int)<(l.length:Int):=by omega
   have e1:IntKind.i64.wrap ((k:Int)+1)=((k+1:Nat):Int):=by rw [IntWalk.i64_in _ (by omega)];omega
   have HK:=hQ9 hlt
   have htl:t.length≤22020096:=by
    have:=zgm l k HPP.out
    rw [HT.out];omega
   have HN:Hid (l.take (k+1)=l.take k++[l[k]]):=hQ9 (List.take_succ_eq_append_getElem hlt)
   have hpx:=HPP.out l[k] (List.getElem_mem hlt)
   have cR:=fun W=>xZ l[k] hpx.1 hpx.2 W
   have hil:=yl hpx.1 hpx.2
   generalize l[k]=x at *
   have CR:=hQ9 cR
   clear cR hpx
   by_cases hz:k=0
   ·have hkn:¬(0:Int)<(k:Int):=by omega
    have happ:=xQ t (Lib.itoa x)
    have HR:Hid (t++Lib.itoa x=nums (l.take (k+1))):=hQ9 (by rw [HN.out,HT.out,hz];rfl)
    clear hz
    go_wp2_with(first | (go_at_call 154;refine(CR.out _).mono ?_;rintro e w3 ⟨rfl,hg3⟩))
    go_roundw
    case rel=>exact⟨k+1,_,by have:=HK.out;omega,by go_num,rfl,HR,zc hg hg3⟩
    case measure=>have h9:=HK.out;simp [intOf];omega
   ·have hkp:(0:Int)<(k:Int):=by omega
    have hne:l.take k≠[]:=by
     intro e
     have h9:(l.take k).length=k:=by rw [List.length_take];omega
     rw [e]at h9
     exact hz h9.symm
    have happ1:=xQ t [44]
    have happ:=xQ (t++[44]) (Lib.itoa x)
    have HR:Hid ((t++[44])++Lib.itoa x=nums (l.take (k+1))):=hQ9 (by
     rw [HN.out,HT.out,zmq _ _ hne]
     exact List.append_assoc _ _ _)
    clear hne
    have htl2:(t++[44]).length≤22020097:=by rw [List.length_append];simp;omega
    go_wp2_with(first | (go_at_call 154;refine(CR.out _).mono ?_;rintro e w3 ⟨rfl,hg3⟩))
    go_roundw
    case rel=>exact⟨k+1,_,by have:=HK.out;omega,by go_num,rfl,hQ9 ((List.append_assoc _ _ _).symm.trans HR.out),zc hg hg3⟩
    case measure=>have h9:=HK.out;simp [intOf];omega
  ·obtain rfl:k=l.length:=by omega
   rw [List.take_length]at HT
   go_wp2_with fail
   go_ret
   exact⟨by rw [HT.out];rfl,hg⟩
/-! parts: between commas -/
def parP (S:List UInt8) (k:Nat) (done:List (List UInt8)) (cur:List UInt8):Prop:=∀ r,splitC (S.take k++r)=done++(match splitC r with | []=>[cur] | x::l=>(cur++x)::l)
theorem parP_0 (S:List UInt8):parP S 0 [] []:=by
 intro r
 cases h:splitC r with
 | nil=>exact absurd h (kj r)
 | cons x l=>simp [h]
theorem zj8 {S:List UInt8} {k:Nat} {done:List (List UInt8)} {cur:List UInt8} (h:parP S k done cur) (hk:k<S.length) (hc:S[k]=44):parP S (k+1) (done++[cur]) []:=by
 intro r
 rw [List.take_succ_eq_append_getElem hk,hc,List.append_assoc,h]
 show done++(match splitC (44::r)with | []=>[cur] | x::l=>(cur++x)::l)=_
 rw [splitC,if_pos rfl]
 cases h2:splitC r with
 | nil=>exact absurd h2 (kj r)
 | cons x l=>simp
theorem zj9 {S:List UInt8} {k:Nat} {done:List (List UInt8)} {cur:List UInt8} (h:parP S k done cur) (hk:k<S.length) (hc:S[k]≠44):parP S (k+1) done (cur++[S[k]]):=by
 intro r
 rw [List.take_succ_eq_append_getElem hk,List.append_assoc,h]
 show done++(match splitC (S[k]::r)with | []=>[cur] | x::l=>(cur++x)::l)=_
 rw [splitC,if_neg hc]
 cases h2:splitC r with
 | nil=>exact absurd h2 (kj r)
 | cons x l=>simp
theorem zpo {S:List UInt8} {done:List (List UInt8)} {cur:List UInt8} (h:parP S S.length done cur):splitC S=done++[cur]:=by
 have:=h []
 simpa [splitC]using this
theorem zht (s:ByteArray) (k:Nat) (h:k<s.size):s.extract k (k+1)=⟨[s[k]].toArray⟩:=by
 rw [Lib.extract_eq]
 congr 2
 have hk:k<s.data.toList.length:=by rw [yc];exact h
 rw [List.drop_eq_getElem_cons hk,show k+1-k=1 from by omega,List.take_succ_cons,List.take_zero]
 rfl
theorem zgn (s:ByteArray) (hs:s.size≤1048576) (w:World) :
 Calls Tryz.prog 229 #[.string s] w fun e w'=>∃ v,e=.returned v∧w'.ownsRow w.heap.size 9 1 v (splitC s.data.toList).length (strL (txt (splitC s.data.toList)))∧Grew w w':=by
 obtain⟨i1,hj,hy0,hy1,hy2⟩:=info_parts qH
 have hsl:=hQ9 (yc s)
 go_enter Tryz.func229,Tryz.ntmps229
 go_wp2_with fail
 have hown0:(w.alloc (.cells #[.string ⟨#[]⟩] 9)).ownsRow w.heap.size 9 1 (.slice (some ⟨w.heap.size,0,none⟩) 1 1) 1 (strL (txt ([]++[[]]))):=World.ownsRow_lit w #[.string ⟨#[]⟩] 1 (Nat.le_refl _) (by decide) rfl
 go_loopw [3,4] (fun ov iv wr=>∃(k:Nat) (done:List (List UInt8)) (cur:List UInt8),k≤s.size∧done.length≤k∧cur.length≤k∧iv=.int .i64 k∧Hid (parP s.data.toList k done cur)∧wr.ownsRow w.heap.size 9 1 ov (done.length+1) (strL (txt (done++[cur])))∧Grew w wr) (fun _ iv _=>s.size-(intOf iv).toNat)
 case atStart=>exact⟨0,[],[],Nat.zero_le _,Nat.le_refl _,Nat.le_refl _,rfl,hQ9 (parP_0 _),hown0,ze (za w) _⟩
 case round =>
  obtain⟨k,done,cur,hk,hdk,hck,rfl,HP,hoo,hg⟩:=hrel
  have hgz:=hg.size
  by_cases hlt:k<s.size
  ·have hk0:(0:Int)≤(k:Int):=by omega
   have hk1:(k:Int)<(s.size:Int):=by omega
   have e1:IntKind.i64.wrap ((k:Int)+1)=((k+1:Nat):Int):=by rw [IntWalk.i64_in _ (by omega)];omega
   have HLT:=hQ9 (show k<s.data.toList.length by rw [hsl.out];exact hlt)
   have HK1:=hQ9 hk1
   by_cases ha:((s[k]'hlt).toNat:Int)=44
   ·have HN:=hQ9 (zj8 HP.out HLT.out (by rw [ya s k hlt HLT.out];exact u8_eq _ 44 (by omega) ha))
    have HT:Hid (strL (txt ((done++[cur])++[[]]))=strL (txt (done++[cur]))++[.string ⟨#[]⟩]):=hQ9 (by rw [kN])
    go_wp2_with(at_builtin;refine zi rfl (.tmp 16) (.tmp 17) 154 rfl w.heap.size 9 i1 (.string ⟨#[]⟩) 16 Tryz.underlying154 hj hy0 hy1 hy2 rfl _ (done.length+1) _ rfl (hoo.alloc _) (wr.heap.size+1) (some ⟨wr.heap.size,0,none⟩) 1 1 [.string ⟨#[]⟩] rfl rfl (zM wr 9 #[.string ⟨#[]⟩] (0,0)) (yb rfl) (by unfold maxLen;omega) (by omega) (by simp;omega) ?_;intro v6 w6 hown6 hgrow6 _;have hg6:=zT hg hgrow6 (zj hoo))
    go_roundw
    case rel=>exact⟨k+1,done++[cur],[],by have:=HK1.out;omega,by simp;omega,by simp,by go_num,HN,by rw [HT.out,List.length_append];exact hown6,hg6⟩
    case measure=>have h9:=HK1.out;simp [intOf];omega
   ·have HN:=hQ9 (zj9 HP.out HLT.out (by rw [ya s k hlt HLT.out];intro h;exact ha (by rw [h];rfl)))
    have hab:(((s[k]'hlt).toNat:Int)==44)=false:=by simpa using ha
    obtain⟨g,cap,rfl⟩:=ownsRow_succ hoo
    obtain⟨n,hn⟩:∃ n,done.length=n:=⟨_,rfl⟩
    rw [hn]at hdk hoo ⊢
    have hc:=hoo.cellAt n (by omega)
    have hf:=hoo.frozenAt n
    have hat:(strL (txt (done++[cur])))[n]?=some (.string ⟨cur.toArray⟩):=by
     rw [←hn];simp [strL,txt]
    rw [hat]at hc
    obtain⟨hst,hgs⟩:=hoo.stored n (.string ⟨(cur++[s[k]'hlt]).toArray⟩)
    have hset:(strL (txt (done++[cur]))).set n (.string ⟨(cur++[s[k]'hlt]).toArray⟩)=strL (txt (done++[cur++[s[k]'hlt]])):=by
     rw [←hn];simp [strL,txt]
    rw [hset]at hst
    have hix:(((n+1:Nat):Int)-1)=(n:Int):=by omega
    have hnn:(0:Int)≤(n:Int):=by omega
    have hex:=zht s k hlt
    have happ:=xQ cur [s[k]'hlt]
    have hle:(k:Int)≤(k:Int)+1:=by omega
    have hle2:(k:Int)+1≤(s.size:Int):=by omega
    have hle3:(0:Int)≤(k:Int)+1:=by omega
    have hle4:((k:Int)+1).toNat=k+1:=by omega
    have hwn:IntKind.i64.wrap (n:Int)=(n:Int):=IntWalk.i64_in _ (by omega)
    have hn1:(n:Int)<(n:Int)+1:=by omega
    have hcu:cur.length+1≤9223372036854775807:=by omega
    have HST:=hQ9 hst
    have HGS:=hQ9 hgs
    have HHN:=hQ9 hn
    clear hst hgs hn hset hat
    go_wp2_with fail
    go_region
    go_wp2_with fail
    go_roundw
    case rel =>
     refine⟨k+1,done,cur++[s[k]'hlt],by have:=HK1.out;omega,by have:=HHN.out;omega,by rw [List.length_append];simp;omega,by go_num,HN,?_,?_⟩
     ·rw [HHN.out];exact HST.out
     ·exact(hg.grown HGS.out (by omega) (fun j hj=>by injection hj with hj;have:=(zN hoo g rfl).1;omega)).drew
    case measure=>have h9:=HK1.out;simp [intOf];omega
  ·obtain rfl:k=s.size:=by omega
   have hend:=zpo (S:=s.data.toList) (by rw [hsl.out];exact HP.out)
   have HE:=hQ9 hend
   clear hend
   obtain⟨g,cap,rfl⟩:=ownsRow_succ hoo
   go_wp2_with fail
   go_ret
   exact⟨_,rfl,by rw [HE.out,List.length_append];exact hoo,hg⟩
def longT (l:List (List UInt8)):Bool:=l.any (fun x=>decide ((pnum x).2≠0))
theorem zcj (l:List (List UInt8)) (x:List UInt8):longT (l++[x])=(longT l||decide ((pnum x).2≠0)):=by
 unfold longT;rw [List.any_append];simp
theorem zhu {s:List UInt8} (h:s≠[]) (hn:noForm (splitC s)):pnums s=if longT (splitC s) then ([],4) else (valsT (splitC s),0):=by
 rw [zb8 h hn]
 unfold worstT
 show(if (if longT (splitC s)=true then (4:Int) else 0)=0 then _ else _)=_
 cases longT (splitC s)<;>simp
theorem zav {l:List (List UInt8)} {x:List UInt8} (h:noForm l) (hx:(pnum x).2≠2):noForm (l++[x]):=by
 intro y hy
 rcases List.mem_append.1 hy with hy | hy
 ·exact h y hy
 ·obtain rfl:y=x:=by simpa using hy
  exact hx
theorem zmr (l:List UInt8):∀ x∈splitC l,x.length≤l.length:=by
 induction l with
 | nil=>intro x hx;simp [splitC]at hx;simp [hx]
 | cons c r ih =>
  intro x hx
  rw [splitC]at hx
  split at hx
  ·rcases List.mem_cons.1 hx with rfl | hx
   ·simp
   ·have:=ih x hx;simp;omega
  ·split at hx
   ·obtain rfl:x=[c]:=by simpa using hx
    simp
   ·rename_i y l h
    rw [h]at ih
    rcases List.mem_cons.1 hx with rfl | hx
    ·have:=ih y List.mem_cons_self;simp;omega
    ·have:=ih x (List.mem_cons_of_mem _ hx);simp;omega
theorem kz (s:ByteArray) (hs:s.size≤1048576) (w:World) :
 Calls Tryz.prog 171 #[.string s] w fun e w'=>(∃ v,e=.returned (.tuple #[v,.int .i64 (pnums s.data.toList).2])∧w'.ownsRow w.heap.size 2 1 v (pnums s.data.toList).1.length (i64L (pnums s.data.toList).1))∧Grew w w':=by
 by_cases hz:s.size=0
 ·obtain rfl:=xi hz
  go_enter Tryz.func171,Tryz.ntmps171
  go_wp2_with fail
  go_ret2
  exact⟨⟨_,rfl,World.ownsRow_nil _ _ _ _⟩,za w⟩
 ·obtain⟨i0,hi,hz0,hz1,hz2⟩:=info_parts (show(Tryz.prog.info? 2).map (fun i=>(i.zero,i.size,i.bytes))=some (some (.int .i64 0),1,8) by kernel_rfl)
  have hp:0<s.size:=by omega
  have hie:=kI hp
  have hie2:=kQ hp
  have hne:Hid (s.data.toList≠[]):=hQ9 (fun e=>by have:=yc s;rw [e]at this;simp at this;omega)
  have CP:=hQ9 (zgn s hs w)
  have hNl:=jL s.data.toList
  have hEl:=zmr s.data.toList
  rw [yc]at hNl
  have HEL:=hQ9 hEl
  clear hEl
  obtain⟨ps,hps⟩:∃ ps,splitC s.data.toList=ps:=⟨_,rfl⟩
  rw [hps]at hNl
  have HPS:=hQ9 hps
  clear hps
  go_enter Tryz.func171,Tryz.ntmps171
  go_wp2_with(first | (go_at_call 229;refine(CP.out).mono ?_;rintro e w1 ⟨v,rfl,hrow,hg1⟩;rw [HPS.out]at hrow;obtain⟨A1,c1,rfl,hpc,_,hrd⟩:=zv hrow))
  clear hrow hie hie2
  have hg1z:=hg1.size
  go_loopw [5,6,7] (fun ov lv iv wr=>∃ k:Nat,k≤ps.length∧iv=.int .i64 k∧Hid (noForm (ps.take k))∧lv=.bool (longT (ps.take k))∧wr.ownsRow w1.heap.size 2 1 ov k (i64L (valsT (ps.take k)))∧Grew w1 wr) (fun _ _ iv _=>ps.length-(intOf iv).toNat)
  case atStart=>exact⟨0,Nat.zero_le _,rfl,hQ9 (fun x hx=>by simp at hx),rfl,World.ownsRow_nil _ _ _ _,za w1⟩
  case round =>
   obtain⟨k,hk,rfl,HF,rfl,hown,hg⟩:=hrel
   have hgz:=hg.size
   by_cases hlt:k<ps.length
   ·obtain⟨ad,rfl,hbl,hc0⟩:=zb2 (hrd.below hg) k (by rw [zb3];exact hlt)
    have hk0:(0:Int)≤(k:Int):=by omega
    have hk1:(k:Int)<(ps.length:Int):=by omega
    have e1:IntKind.i64.wrap ((k:Int)+1)=((k+1:Nat):Int):=by rw [IntWalk.i64_in _ (by omega)];omega
    have HK:=hQ9 hlt
    have hT:ps.take (k+1)=ps.take k++[ps[k]]:=List.take_succ_eq_append_getElem hlt
    have hxe:(txt ps)[k]'(by rw [zb3];exact hlt)=⟨ps[k].toArray⟩:=by unfold txt;exact List.getElem_map _
    have hxl:ps[k].length≤1048576:=by
     have:=HEL.out ps[k] (by rw [HPS.out];exact List.getElem_mem hlt)
     rw [yc]at this;omega
    have hmem:ps[k]∈ps:=List.getElem_mem hlt
    rw [hxe]at hc0
    generalize ps[k]=x at *
    obtain⟨xb,hxb⟩:∃ xb:ByteArray,xb=⟨x.toArray⟩:=⟨_,rfl⟩
    have hxb2:xb.data.toList=x:=by rw [hxb]
    rw [←hxb]at hc0
    have cR:=xj xb (by rw [←yc,hxb2];omega)
    unfold pnumRes at cR
    rw [hxb2]at cR
    have HTT:=hQ9 hT
    have HMEM:=hQ9 hmem
    clear hT hxe hxb hxb2 hmem
    obtain⟨lg,hlg⟩:∃ lg,longT (ps.take k)=lg:=⟨_,rfl⟩
    rw [hlg]
    have HLG:=hQ9 hlg
    clear hlg
    have HGP:Hid (∀ w6,(wr.alloc (.cells #[.int .i64 (pnum x).1] 2)).grownBy w6 (Value.ownBlock u5)→Grew w1 w6):=hQ9 (fun w6 h6=>zT hg h6 (zj hown))
    rcases ze8 x with he | he | he
    ·rw [he]at cR
     have HV:Hid (i64L (valsT (ps.take (k+1)))=i64L (valsT (ps.take k))++[.int .i64 (pnum x).1]):=hQ9 (by rw [HTT.out,kE,jl];rfl)
     have HL:Hid (longT (ps.take (k+1))=lg):=hQ9 (by rw [HTT.out,zcj,he,HLG.out];simp)
     have HN:Hid (noForm (ps.take (k+1))):=hQ9 (by rw [HTT.out];exact zav HF.out (by rw [he];decide))
     have CR:=hQ9 cR
     clear cR he
     generalize (pnum x).1=z at *
     cases lg
     all_goals
      go_wp2_with(first
      | (go_at_call 149;refine(CR.out _).mono ?_;rintro e w' ⟨rfl,hw⟩;have hw:=hw.symm;subst hw)
      | (at_builtin;refine zi rfl (.tmp 36) (.tmp 38) 69 rfl w1.heap.size 2 i0 (.int .i64 0) 8 Tryz.underlying69 hi hz0 hz1 hz2 rfl _ k _ rfl (hown.alloc _) (wr.heap.size+1) (some ⟨wr.heap.size,0,none⟩) 1 1 [.int .i64 z] rfl rfl (zM wr 2 #[.int .i64 z] (0,0)) (yb rfl) (by unfold maxLen;omega) (by omega) (by simp;omega) ?_;intro v6 w6 hown6 hgrow6 _;have hg6:=HGP.out w6 hgrow6))
      go_roundw
      case rel=>exact⟨k+1,by have:=HK.out;omega,by go_num,HN,by rw [HL.out],by rw [HV.out];exact hown6,hg6⟩
      case measure=>have h9:=HK.out;simp [intOf];omega
    ·rw [he]at cR
     have HB:Hid (pnums s.data.toList=([],2)):=hQ9 (zec hne.out x (by rw [HPS.out];exact HMEM.out) he)
     have CR:=hQ9 cR
     clear cR he HGP
     go_wp2_with(first
      | (go_at_call 149;refine(CR.out _).mono ?_;rintro e w' ⟨rfl,hw⟩;have hw:=hw.symm;subst hw))
     go_ret2
     exact⟨⟨_,by rw [HB.out];rfl,by rw [HB.out];exact World.ownsRow_nil _ _ _ _⟩,zc hg1 hg⟩
    ·rw [he]at cR
     have HV:Hid (i64L (valsT (ps.take (k+1)))=i64L (valsT (ps.take k))++[.int .i64 (pnum x).1]):=hQ9 (by rw [HTT.out,kE,jl];rfl)
     have HL:Hid (longT (ps.take (k+1))=true):=hQ9 (by rw [HTT.out,zcj,he];simp)
     have HN:Hid (noForm (ps.take (k+1))):=hQ9 (by rw [HTT.out];exact zav HF.out (by rw [he];decide))
     have CR:=hQ9 cR
     clear cR he
     generalize (pnum x).1=z at *
     cases lg
     all_goals
      go_wp2_with(first
      | (go_at_call 149;refine(CR.out _).mono ?_;rintro e w' ⟨rfl,hw⟩;have hw:=hw.symm;subst hw)
      | (at_builtin;refine zi rfl (.tmp 36) (.tmp 38) 69 rfl w1.heap.size 2 i0 (.int .i64 0) 8 Tryz.underlying69 hi hz0 hz1 hz2 rfl _ k _ rfl (hown.alloc _) (wr.heap.size+1) (some ⟨wr.heap.size,0,none⟩) 1 1 [.int .i64 z] rfl rfl (zM wr 2 #[.int .i64 z] (0,0)) (yb rfl) (by unfold maxLen;omega) (by omega) (by simp;omega) ?_;intro v6 w6 hown6 hgrow6 _;have hg6:=HGP.out w6 hgrow6))
      go_roundw
      case rel=>exact⟨k+1,by have:=HK.out;omega,by go_num,HN,by rw [HL.out],by rw [HV.out];exact hown6,hg6⟩
      case measure=>have h9:=HK.out;simp [intOf];omega
   ·obtain rfl:k=ps.length:=by omega
    rw [List.take_length]at HF hown ⊢
    have hpn:=zhu hne.out (by rw [HPS.out];exact HF.out)
    rw [HPS.out]at hpn
    have hvl:ps.length=(valsT ps).length:=by simp [valsT]
    obtain⟨lg,hlg⟩:∃ lg,longT ps=lg:=⟨_,rfl⟩
    rw [hlg]at hpn ⊢
    have HPN:=hQ9 hpn
    have HVL:=hQ9 hvl
    clear hpn hlg hvl
    obtain⟨A5,c5,rfl,_,_,_⟩:=zv hown
    cases lg
    ·go_wp2_with fail
     go_ret2
     exact⟨⟨_,by rw [HPN.out];rfl,by rw [HPN.out];show World.ownsRow _ _ _ _ _ (valsT ps).length _;rw [←HVL.out];exact xk hown hg1z⟩,zc hg1 hg⟩
    ·go_wp2_with fail
     go_ret2
     exact⟨⟨_,by rw [HPN.out];rfl,by rw [HPN.out];exact World.ownsRow_nil _ _ _ _⟩,zc hg1 hg⟩
theorem Rd.grew {w w':World} {A:Option Addr} {xs:List Value} (h:Rd w w.heap.size A xs) (hb:Grew w w'):Rd w' w'.heap.size A xs:=(h.below hb).more hb.size
theorem xx {s:ByteArray} {l:List (List UInt8)} (h:splitF s.data.toList=some l) (hl:l.length≤4096) (hs:s.size≤100000000) (w:World) :
 Calls Tryz.prog 79 #[.string s] w fun e w'=>(∃ v,e=.returned (.tuple #[v,.int .i64 0])∧w'.ownsRow w.heap.size 9 1 v l.length (strL (txt l)))∧Grew w w' :=
 (kP s hs w).mono fun e w' ⟨hh,hg⟩=>by
  refine⟨?_,hg⟩
  rcases hh with ⟨h1,_⟩ | ⟨l',h1,h2⟩
  ·rw [h]at h1;cases h1
  ·rw [h]at h1
   injection h1 with h1
   subst h1
   rcases h2 with ⟨h3,_⟩ | ⟨_,h4⟩
   ·omega
   ·exact h4
theorem zka {s:ByteArray} (h:splitF s.data.toList=none) (hs:s.size≤100000000) (w:World) :
 Calls Tryz.prog 79 #[.string s] w fun e w'=>e=.returned (.tuple #[.slice none 0 0,.int .i64 2])∧Grew w w' :=
 (kP s hs w).mono fun e w' ⟨hh,hg⟩=>by
  refine⟨?_,hg⟩
  rcases hh with ⟨_,h1⟩ | ⟨l',h1,_⟩
  ·exact h1
  ·rw [h]at h1;cases h1
end Go.Proofs.YtpppegnojmnicaaGreatDoor
