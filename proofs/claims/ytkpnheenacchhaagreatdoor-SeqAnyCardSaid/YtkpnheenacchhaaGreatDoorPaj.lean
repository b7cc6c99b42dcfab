/- folkmoot/folkmootlaw1.Ints. -/
import Derived.Test.YtkpnheenacchhaaGreatDoorPzz
import Derived.Test.YtkpnheenacchhaaGreatDoorProg
import Derived.Test.YtkpnheenacchhaaGreatDoorPai
import Derived.Test.YtkpnheenacchhaaGreatDoorPac
import Derived.Laws.MakeOwn
set_option maxHeartbeats 1000000
set_option maxRecDepth 100000
set_option linter.unusedSimpArgs false
set_option linter.unusedVariables false
namespace Go.Proofs.YtkpnheenacchhaaGreatDoor
open Go.RowKit
def strL (l:List ByteArray):List Value:=l.map .string
theorem qH (l:List ByteArray):(strL l).length=l.length:=by simp [strL]
theorem zdt {w:World} {B:Nat} {A:Option Addr} {l:List ByteArray} (h:Rd w B A (strL l)) (k:Nat) (hk:k<l.length):∃ ad,A=some ad∧ad.block<B∧w.cell? (ad.add k)=some (.string l[k]):=by
 obtain⟨ad,h1,h2,h3⟩:=h k (by rw [qH];exact hk)
 exact⟨ad,h1,h2,by rw [h3];simp [strL]⟩
def bys (l:List ByteArray):List (List UInt8):=l.map fun s=>s.data.toList
def byL (l:List UInt8):List Value:=l.map byteV
theorem kd (a b:List UInt8):byL (a++b)=byL a++byL b:=by simp [byL]
theorem zgr (l:List UInt8):∀ u∈byL l,u.oneCell'=true:=by
 intro u hu
 obtain⟨c,_,rfl⟩:=List.mem_map.1 hu
 rfl
theorem zch (s:ByteArray) (k:Nat) (h:k<s.size):s.data.toList.take (k+1)=s.data.toList.take k++[s[k]]:=by
 have hk:k<s.data.toList.length:=by simpa using h
 rw [List.take_succ_eq_append_getElem hk]
 rfl
theorem zdu (l:List ByteArray) (i:Nat) (h:i<l.length):bys (l.take (i+1))=bys (l.take i)++[l[i].data.toList]:=by
 rw [List.take_succ_eq_append_getElem h]
 unfold bys
 rw [List.map_append]
 rfl
theorem zdv (s:ByteArray) (k:Nat) (h:k<s.size):fld (s.data.toList.take (k+1))=fld (s.data.toList.take k)++esc s[k]:=by
 rw [zch s k h,kb,xm,xr,List.append_nil]
theorem qI (f:List UInt8) (k:Nat):(fld (f.take k)).length≤(fld f).length:=by
 have h:=kb (f.take k) (f.drop k)
 rw [List.take_append_drop]at h
 rw [h];simp
theorem jW (l:List (List UInt8)) (k:Nat):(joinF (l.take k)).length≤(joinF l).length:=by
 have h:=yF (l.take k) (l.drop k)
 rw [List.take_append_drop]at h
 rw [h];simp
theorem zgs:(Tryz.prog.info? 5).map (fun i=>(i.zero,i.size,i.bytes))=some (some (.int .u8 0),1,1):=by kernel_rfl
theorem ke (c:UInt8) (w:World):Calls Tryz.prog 154 #[.int .u8 (c.toNat:Int)] w fun e w'=>e=.returned (.bool (spec c))∧w'=w:=by
 have hsp:spec c=(decide ((c.toNat:Int)=124)||decide ((c.toNat:Int)=92)):=by
  have h1:(c==124)=decide ((c.toNat:Int)=124):=by
   rw [Bool.eq_iff_iff,beq_iff_eq,decide_eq_true_iff]
   constructor
   ·intro h;subst h;rfl
   ·intro h;exact UInt8.toNat_inj.1 (by rw [show(124:UInt8).toNat=124 from rfl];omega)
  have h2:(c==92)=decide ((c.toNat:Int)=92):=by
   rw [Bool.eq_iff_iff,beq_iff_eq,decide_eq_true_iff]
   constructor
   ·intro h;subst h;rfl
   ·intro h;exact UInt8.toNat_inj.1 (by rw [show(92:UInt8).toNat=92 from rfl];omega)
  rw [spec,h1,h2]
 have HS:=hQ9 hsp
 clear hsp
 by_cases h1:(c.toNat:Int)=124
 ·have hs:spec c=true:=by rw [HS.out,decide_eq_true h1];rfl
  rw [hs]
  clear hs
  go_enter Tryz.func154,Tryz.ntmps154
  go_wp2_with fail
  go_ret
  exact⟨rfl,rfl⟩
 ·by_cases h2:(c.toNat:Int)=92
  ·have hs:spec c=true:=by rw [HS.out,decide_eq_true h2];simp
   rw [hs]
   clear hs
   go_enter Tryz.func154,Tryz.ntmps154
   go_wp2_with fail
   go_ret
   exact⟨rfl,rfl⟩
  ·have hs:spec c=false:=by rw [HS.out,zF9 h1,zF9 h2];rfl
   rw [hs]
   clear hs
   go_enter Tryz.func154,Tryz.ntmps154
   go_wp2_with fail
   go_ret
   exact⟨by simp [h1,h2],rfl⟩
theorem yi {a b c:World} {o:Obj} {r:Option Nat} (h:Grew a b) (k:(b.alloc o).grownBy c r) (hr:∀ i,r=some i→a.heap.size≤i):Grew a c:=(h.alloc h.size o).grown k (by have:=h.size;simp;omega) hr
theorem zok (c:UInt8):(esc c).length≤2:=by
 unfold esc;split<;>simp
theorem zP (f:List UInt8):(fld f).length≤2*f.length:=by
 induction f with
 | nil=>simp [xr]
 | cons c f ih=>rw [xm,List.length_append,List.length_cons];have:=zok c;omega
theorem zdw (f:List UInt8):f.length≤(fld f).length:=by
 induction f with
 | nil=>simp
 | cons c f ih =>
  rw [xm,List.length_append,List.length_cons]
  have:1≤(esc c).length:=by unfold esc;split<;>simp
  omega
theorem zbk {w:World} {b n f:Nat} {e:TypeId} {v:Value} {P F:List UInt8} {c0:UInt8} (h:w.ownsRow b e 1 v (n+f+1+1) (byL (P++F)++[.int .u8 92]++[.int .u8 (c0.toNat:Int)])):w.ownsRow b e 1 v (n+(f+[(92:UInt8),c0].length)) (byL (P++(F++[92,c0]))):=by
 have e1:byL (P++(F++[92,c0]))=byL (P++F)++[.int .u8 92]++[.int .u8 (c0.toNat:Int)]:=by
  rw [←List.append_assoc,kd (P++F)]
  simp [byL,byteV]
 rw [e1,show n+(f+[(92:UInt8),c0].length)=n+f+1+1 by simp;omega]
 exact h
theorem zdx {w:World} {b n f:Nat} {e:TypeId} {v:Value} {P F:List UInt8} {c0:UInt8} (h:w.ownsRow b e 1 v (n+f+1) (byL (P++F)++[.int .u8 (c0.toNat:Int)])):w.ownsRow b e 1 v (n+(f+[c0].length)) (byL (P++(F++[c0]))):=by
 have e1:byL (P++(F++[c0]))=byL (P++F)++[.int .u8 (c0.toNat:Int)]:=by
  rw [←List.append_assoc,kd (P++F)]
  simp [byL,byteV]
 rw [e1,show n+(f+[c0].length)=n+f+1 by simp;omega]
 exact h
theorem kB (A:Option Addr) (c:Nat) (l:List ByteArray) (hl:l.length≤1048576) (hB:(joinF (bys l)).length≤100000000) (w:World) (hr:Rd w w.heap.size A (strL l)) :
 Calls Tryz.prog 93 #[.slice A l.length c] w fun e w'=>e=.returned (.string ⟨(joinF (bys l)).toArray⟩)∧Grew w w':=by
 obtain⟨i0,hi,hz0,hz1,hz2⟩:=info_parts zgs
 go_enter Tryz.func93,Tryz.ntmps93
 go_wp2_with fail
 go_loopw [3,4] (fun ov iv wr=>∃(i:Nat) (O:List UInt8),i≤l.length∧iv=.int .i64 i∧Hid (O=joinF (bys (l.take i)))∧wr.ownsRow w.heap.size 5 1 ov O.length (byL O)∧Grew w wr) (fun _ iv _=>l.length-(intOf iv).toNat)
 case atStart=>exact⟨0,[],Nat.zero_le _,rfl,hQ9 (by simp [bys,joinF]),World.ownsRow_nil _ _ _ _,Below.refl _ _⟩
 case round =>
  obtain⟨i,O,hil,rfl,HO,hown,hg⟩:=hrel
  by_cases hlt:i<l.length
  ·obtain⟨ad,rfl,hbl,hc0⟩:=zdt (hr.below hg) i hlt
   have hi0:(0:Int)≤(i:Int):=by omega
   have hi1:(i:Int)<(l.length:Int):=by omega
   have HT:=hQ9 (zdu l i hlt)
   have hJ:(joinF (bys (l.take (i+1)))).length≤100000000:=by
    have:=jW (bys l) (i+1)
    have h2:(bys l).take (i+1)=bys (l.take (i+1)):=by simp [bys]
    rw [h2]at this;omega
   have hz:=hg.size
   generalize l[i]=s at *
   have hOJ:O.length+1+(fld s.data.toList).length≤100000000:=by
    rw [HT.out,yF,yt,yV,←HO.out]at hJ
    simp at hJ;omega
   clear hJ
   go_wp2_with(at_builtin;refine zx rfl (.tmp 13) (.tmp 14) 120 rfl w.heap.size 5 i0 (.int .u8 0) 1 Tryz.underlying120 hi hz0 hz1 hz2 rfl _ O.length (byL O) rfl (hown.alloc _) (wr.heap.size+1) (some ⟨wr.heap.size,0,none⟩) 1 1 (byL [124]) rfl rfl (yb wr 5 #[.int .u8 124] (0,0)) (zgr _) (by unfold maxLen;omega) (by omega) (by simp;omega) ?_;intro v3 w3 hown3 hgrow3 _;have hg3:=yi hg hgrow3 (zu hown))
   rw [←kd]at hown3
   have hc3:∀ {W:World},Grew w W→W.cell? (ad.add i)=some (.string s):=fun {W} h=>by
    have h1:=hg.cell (p:=ad.add i) (by rw [zy];omega)
    have h2:=h.cell (p:=ad.add i) (by rw [zy];omega)
    rw [h2,←h1];exact hc0
   have HC3:=hQ9 (fun W h=>hc3 (W:=W) h)
   clear hown hgrow3 hc3 hc0
   go_loopw [3,5] (fun ov kv w2=>∃(k:Nat) (F:List UInt8),k≤s.size∧kv=.int .i64 k∧Hid (F=fld (s.data.toList.take k))∧F.length≤(fld s.data.toList).length∧w2.ownsRow w.heap.size 5 1 ov (O.length+1+F.length) (byL (O++[124]++F))∧Grew w w2) (fun _ kv _=>s.size-(intOf kv).toNat)
   case atStart=>exact⟨0,[],Nat.zero_le _,rfl,hQ9 (by simp [fld]),by simp,by simpa using hown3,hg3⟩
   case round =>
    obtain⟨k,F,hk,rfl,HF,hFl,hown,hg2⟩:=hrel
    have hcs:=HC3.out _ hg2
    by_cases hks:k<s.size
    ·have HFT:=hQ9 (zdv s k hks)
     have hFb:=qI s.data.toList (k+1)
     have hk0:(0:Int)≤(k:Int):=by omega
     have hk1:(k:Int)<(s.size:Int):=by omega
     have hz2s:=hg2.size
     have hc256:=s[k].toNat_lt
     have hsz:s.size≤100000000:=by have h9:=zdw s.data.toList;simp only [Array.length_toList]at h9;have h10:s.data.size=s.size:=rfl;omega
     have e4:IntKind.i64.wrap ((k:Int)+1)=(k:Int)+1:=IntWalk.i64_in _ (by omega)
     have HK1:=hQ9 hk1
     by_cases hsp:spec s[k]=true
     ·have hesc:esc s[k]=[92,s[k]]:=by rw [esc,if_pos hsp]
      have HES:=hQ9 hesc
      have hlen2:F.length+2≤(fld s.data.toList).length:=by
       rw [HFT.out,←HF.out,hesc]at hFb;simpa using hFb
      have hor:(s[k].toNat:Int)=124∨(s[k].toNat:Int)=92:=by
       have h9:=hsp
       simp only [spec,Bool.or_eq_true,beq_iff_eq]at h9
       rcases h9 with h9 | h9
       ·exact .inl (by rw [h9];rfl)
       ·exact .inr (by rw [h9];rfl)
      clear hesc hsp hFb
      have HGP6:=hg2
      rcases hor with hn | hn
      ·have HN:=hQ9 hn
       go_wp2_with(first
        | (at_builtin;refine zx rfl (.tmp 37) (.tmp 38) 120 rfl w.heap.size 5 i0 (.int .u8 0) 1 Tryz.underlying120 hi hz0 hz1 hz2 rfl _ (O.length+1+F.length) (byL (O++[124]++F)) rfl (hown.alloc _) (wr.heap.size+1) (some ⟨wr.heap.size,0,none⟩) 1 1 [.int .u8 92] rfl rfl (yb wr 5 #[.int .u8 92] (0,0)) (xf _ _) (by unfold maxLen;omega) (by omega) (by simp;omega) ?_;intro v6 w6 hown6 hgrow6 _;have hg6:=yi HGP6 hgrow6 (zu hown);have hzz6:=hg6.size)
        | (have HGP7:=hg6;(at_builtin;refine zx rfl (.tmp 40) (.tmp 42) 120 rfl w.heap.size 5 i0 (.int .u8 0) 1 Tryz.underlying120 hi hz0 hz1 hz2 rfl _ (O.length+1+F.length+1) (byL (O++[124]++F)++[.int .u8 92]) rfl (hown6.alloc _) (w6.heap.size+1) (some ⟨w6.heap.size,0,none⟩) 1 1 [.int .u8 124] rfl rfl (yb w6 5 #[.int .u8 124] (0,0)) (xf _ _) (by unfold maxLen;omega) (by omega) (by simp;omega) ?_;intro v7 w7 hown7 hgrow7 _;have hg7:=yi HGP7 hgrow7 (zu hown6);have hzz7:=hg7.size)))
       go_roundw
       case rel=>exact⟨k+1,F++[92,s[k]],by omega,by go_num,hQ9 (by rw [HFT.out,←HF.out,HES.out]),by rw [List.length_append];exact hlen2,by rw [List.length_append];exact zbk (by rw [HN.out];exact hown7),hg7⟩
       case measure=>have h9:=HK1.out;simp [intOf];omega
      ·have HN:=hQ9 hn
       go_wp2_with(first
        | (at_builtin;refine zx rfl (.tmp 37) (.tmp 38) 120 rfl w.heap.size 5 i0 (.int .u8 0) 1 Tryz.underlying120 hi hz0 hz1 hz2 rfl _ (O.length+1+F.length) (byL (O++[124]++F)) rfl (hown.alloc _) (wr.heap.size+1) (some ⟨wr.heap.size,0,none⟩) 1 1 [.int .u8 92] rfl rfl (yb wr 5 #[.int .u8 92] (0,0)) (xf _ _) (by unfold maxLen;omega) (by omega) (by simp;omega) ?_;intro v6 w6 hown6 hgrow6 _;have hg6:=yi HGP6 hgrow6 (zu hown);have hzz6:=hg6.size)
        | (have HGP7:=hg6;(at_builtin;refine zx rfl (.tmp 40) (.tmp 42) 120 rfl w.heap.size 5 i0 (.int .u8 0) 1 Tryz.underlying120 hi hz0 hz1 hz2 rfl _ (O.length+1+F.length+1) (byL (O++[124]++F)++[.int .u8 92]) rfl (hown6.alloc _) (w6.heap.size+1) (some ⟨w6.heap.size,0,none⟩) 1 1 [.int .u8 92] rfl rfl (yb w6 5 #[.int .u8 92] (0,0)) (xf _ _) (by unfold maxLen;omega) (by omega) (by simp;omega) ?_;intro v7 w7 hown7 hgrow7 _;have hg7:=yi HGP7 hgrow7 (zu hown6);have hzz7:=hg7.size)))
       go_roundw
       case rel=>exact⟨k+1,F++[92,s[k]],by omega,by go_num,hQ9 (by rw [HFT.out,←HF.out,HES.out]),by rw [List.length_append];exact hlen2,by rw [List.length_append];exact zbk (by rw [HN.out];exact hown7),hg7⟩
       case measure=>have h9:=HK1.out;simp [intOf];omega
     ·have hesc:esc s[k]=[s[k]]:=by rw [esc,if_neg hsp]
      have HES:=hQ9 hesc
      have hlen2:F.length+1≤(fld s.data.toList).length:=by
       rw [HFT.out,←HF.out,hesc]at hFb;simpa using hFb
      have hn1:¬(s[k].toNat:Int)=124:=fun h=>hsp (by rw [show s[k]=124 from UInt8.toNat_inj.1 (by rw [show(124:UInt8).toNat=124 from rfl];omega)];rfl)
      have hn2:¬(s[k].toNat:Int)=92:=fun h=>hsp (by rw [show s[k]=92 from UInt8.toNat_inj.1 (by rw [show(92:UInt8).toNat=92 from rfl];omega)];rfl)
      have hd1:((s[k].toNat:Int)==124)=false:=by simpa using hn1
      have hd2:((s[k].toNat:Int)==92)=false:=by simpa using hn2
      have hd3:decide ((s[k].toNat:Int)=124)=false:=zF9 hn1
      have hd4:decide ((s[k].toNat:Int)=92)=false:=zF9 hn2
      clear hesc hsp hFb
      have HGP7:=hg2
      go_wp2_with(at_builtin;refine zx rfl (.tmp 40) (.tmp 42) 120 rfl w.heap.size 5 i0 (.int .u8 0) 1 Tryz.underlying120 hi hz0 hz1 hz2 rfl _ (O.length+1+F.length) (byL (O++[124]++F)) rfl (hown.alloc _) (wr.heap.size+1) (some ⟨wr.heap.size,0,none⟩) 1 1 [.int .u8 (s[k].toNat:Int)] rfl rfl (yb wr 5 #[.int .u8 (s[k].toNat:Int)] (0,0)) (xf _ _) (by unfold maxLen;omega) (by omega) (by simp;omega) ?_;intro v7 w7 hown7 hgrow7 _;have hg7:=yi HGP7 hgrow7 (zu hown);have hzz7:=hg7.size)
      go_roundw
      case rel=>exact⟨k+1,F++[s[k]],by omega,by go_num,hQ9 (by rw [HFT.out,←HF.out,HES.out]),by rw [List.length_append];exact hlen2,by rw [List.length_append];exact zdx hown7,hg7⟩
      case measure=>have h9:=HK1.out;simp [intOf];omega
    ·obtain rfl:k=s.size:=by omega
     have hkk:s.data.toList.take s.size=s.data.toList:=List.take_of_length_le (by simp)
     have HKK:=hQ9 hkk
     clear hkk
     go_wp2_with fail
     go_roundw
     case rel=>exact⟨i+1,O++[124]++F,by omega,by go_num,hQ9 (by rw [HT.out,yF,←HO.out,yt,yV,HF.out,HKK.out];simp),by rw [List.length_append,List.length_append];exact hown,hg2⟩
     case measure=>simp [intOf];omega
  ·obtain rfl:i=l.length:=by omega
   rw [List.take_length]at HO
   obtain⟨A',c',rfl,_,_,hrd⟩:=zU hown
   have hcv:=xW (P:=Tryz.prog) wr wr.heap.size 120 9 5 A' O.length c' O rfl Tryz.underlying120 Tryz.underlying5 Tryz.underlying9 hrd
   go_wp2_with fail
   go_ret
   exact⟨by rw [HO.out];rfl,hg⟩
def tot (l:List ByteArray):Nat:=(l.map fun s=>s.size).sum
theorem zmb (l:List ByteArray) (s:ByteArray):tot (l++[s])=tot l+s.size:=by simp [tot]
theorem tot_le (l:List ByteArray):l.length+tot l≤(joinF (bys l)).length:=by
 induction l with
 | nil=>simp [tot]
 | cons s l ih =>
  have h1:bys (s::l)=s.data.toList::bys l:=rfl
  have h2:=zdw s.data.toList
  have h3:s.data.toList.length=s.size:=by simp
  have h4:tot (s::l)=s.size+tot l:=by simp [tot]
  rw [h1,yt,h4]
  simp only [List.length_cons,List.length_append]
  omega
theorem zh1 (a b:List ByteArray):tot (a++b)=tot a+tot b:=by simp [tot]
theorem qJ (l:List ByteArray) (k:Nat):tot (l.take k)≤tot l:=by
 have h:=zh1 (l.take k) (l.drop k)
 rw [List.take_append_drop]at h
 omega
theorem kn (A:Option Addr) (c:Nat) (l:List ByteArray) (hl:l.length≤1048576) (hB:(joinF (bys l)).length≤100000000) (w:World) (hr:Rd w w.heap.size A (strL l)) :
 Calls Tryz.prog 84 #[.slice A l.length c] w fun e w'=>e=.returned (.string ⟨(joinF (bys l)).toArray⟩)∧Grew w w':=by
 obtain⟨i0,hi,hz0,hz1,hz2⟩:=info_parts zgs
 go_enter Tryz.func84,Tryz.ntmps84
 have hlB:=tot_le l
 go_wp2_with fail
 go_loop [3,14] (fun sv iv=>∃ i:Nat,i≤l.length∧iv=.int .i64 i∧sv=.int .i64 ((l.length+tot (l.take i):Nat):Int)) (fun _ iv=>l.length-(intOf iv).toNat)
 case atStart=>exact⟨0,Nat.zero_le _,rfl,by simp [tot]⟩
 case round =>
  obtain⟨i,hil,rfl,rfl⟩:=hrel
  have htl:=qJ l i
  by_cases hlt:i<l.length
  ·obtain⟨ad,rfl,hbl,hc0⟩:=zdt hr i hlt
   have hi0:(0:Int)≤(i:Int):=by omega
   have hi1:(i:Int)<(l.length:Int):=by omega
   have htl2:=qJ l (i+1)
   have hts:tot (l.take (i+1))=tot (l.take i)+l[i].size:=by rw [List.take_succ_eq_append_getElem hlt,zmb]
   rw [hts]at htl2
   have HTS:=hQ9 hts
   clear hts
   generalize l[i]=s at *
   generalize tot (l.take i)=t at *
   have e1:IntKind.i64.wrap (((l.length+t:Nat):Int)+(s.size:Int))=((l.length+t+s.size:Nat):Int):=by rw [IntWalk.i64_in _ (by omega)];omega
   have e2:IntKind.i64.wrap ((l.length:Int)+(t:Int)+(s.size:Int))=((l.length+t+s.size:Nat):Int):=by rw [IntWalk.i64_in _ (by omega)];omega
   go_wp2_with fail
   go_round
   case rel=>exact⟨i+1,by omega,by go_num,by rw [HTS.out];go_num⟩
   case measure=>simp [intOf];omega
  ·obtain rfl:i=l.length:=by omega
   rw [List.take_length]
   clear htl
   obtain⟨cp,hcp⟩:∃ cp,l.length+tot l=cp:=⟨_,rfl⟩
   rw [hcp]at hlB ⊢
   clear hcp
   obtain⟨w1,hmk,hown1,hgrow1⟩:=run_make_own (P:=Tryz.prog) w w.heap.size 120 5 i0 (.int .u8 0) 1 Tryz.underlying120 hi hz0 hz1 .i64 .i64 cp (by rw [hz2];omega) (by unfold maxLen;omega) (zN9 _)
   have hg1:Grew w w1:=(Below.refl _ w).grown hgrow1 (zN9 _) (fun j hj=>by cases hj)
   clear hgrow1
   go_wp2_with fail
   clear hmk
   go_loopw [6,27] (fun ov iv wr=>∃(i:Nat) (O:List UInt8),i≤l.length∧iv=.int .i64 i∧Hid (O=joinF (bys (l.take i)))∧wr.ownsRow w.heap.size 5 1 ov O.length (byL O)∧Grew w wr) (fun _ iv _=>l.length-(intOf iv).toNat)
   case atStart=>exact⟨0,[],Nat.zero_le _,rfl,hQ9 (by simp [bys,joinF]),hown1,hg1⟩
   case round =>
    obtain⟨i,O,hil,rfl,HO,hown,hg⟩:=hrel
    by_cases hlt:i<l.length
    ·obtain⟨ad,rfl,hbl,hc0⟩:=zdt (hr.below hg) i hlt
     have hi0:(0:Int)≤(i:Int):=by omega
     have hi1:(i:Int)<(l.length:Int):=by omega
     have HT:=hQ9 (zdu l i hlt)
     have hJ:(joinF (bys (l.take (i+1)))).length≤100000000:=by
      have:=jW (bys l) (i+1)
      have h2:(bys l).take (i+1)=bys (l.take (i+1)):=by simp [bys]
      rw [h2]at this;omega
     have hz:=hg.size
     generalize l[i]=s at *
     have hOJ:O.length+1+(fld s.data.toList).length≤100000000:=by
      rw [HT.out,yF,yt,yV,←HO.out]at hJ
      simp at hJ;omega
     clear hJ
     go_wp2_with(at_builtin;refine zx rfl (.tmp 31) (.tmp 32) 120 rfl w.heap.size 5 i0 (.int .u8 0) 1 Tryz.underlying120 hi hz0 hz1 hz2 rfl _ O.length (byL O) rfl (hown.alloc _) (wr.heap.size+1) (some ⟨wr.heap.size,0,none⟩) 1 1 (byL [124]) rfl rfl (yb wr 5 #[.int .u8 124] (0,0)) (zgr _) (by unfold maxLen;omega) (by omega) (by simp;omega) ?_;intro v3 w3 hown3 hgrow3 _;have hg3:=yi hg hgrow3 (zu hown))
     rw [←kd]at hown3
     have hc3:∀ {W:World},Grew w W→W.cell? (ad.add i)=some (.string s):=fun {W} h=>by
      have h1:=hg.cell (p:=ad.add i) (by rw [zy];omega)
      have h2:=h.cell (p:=ad.add i) (by rw [zy];omega)
      rw [h2,←h1];exact hc0
     have HC3:=hQ9 (fun W h=>hc3 (W:=W) h)
     clear hown hgrow3 hc3 hc0
     go_loopw [6,36] (fun ov kv w2=>∃(k:Nat) (F:List UInt8),k≤s.size∧kv=.int .i64 k∧Hid (F=fld (s.data.toList.take k))∧F.length≤(fld s.data.toList).length∧w2.ownsRow w.heap.size 5 1 ov (O.length+1+F.length) (byL (O++[124]++F))∧Grew w w2) (fun _ kv _=>s.size-(intOf kv).toNat)
     case atStart=>exact⟨0,[],Nat.zero_le _,rfl,hQ9 (by simp [fld]),by simp,by simpa using hown3,hg3⟩
     case round =>
      obtain⟨k,F,hk,rfl,HF,hFl,hown,hg2⟩:=hrel
      have hcs:=HC3.out _ hg2
      by_cases hks:k<s.size
      ·have HFT:=hQ9 (zdv s k hks)
       have hFb:=qI s.data.toList (k+1)
       have hk0:(0:Int)≤(k:Int):=by omega
       have hk1:(k:Int)<(s.size:Int):=by omega
       have hz2s:=hg2.size
       have hc256:=s[k].toNat_lt
       have hsz:s.size≤100000000:=by have h9:=zdw s.data.toList;simp only [Array.length_toList]at h9;have h10:s.data.size=s.size:=rfl;omega
       have e4:IntKind.i64.wrap ((k:Int)+1)=(k:Int)+1:=IntWalk.i64_in _ (by omega)
       have HK1:=hQ9 hk1
       by_cases hsp:spec s[k]=true
       ·have hesc:esc s[k]=[92,s[k]]:=by rw [esc,if_pos hsp]
        have HES:=hQ9 hesc
        have hlen2:F.length+2≤(fld s.data.toList).length:=by
         rw [HFT.out,←HF.out,hesc]at hFb;simpa using hFb
        have cS:=fun W=>ke s[k] W
        simp only [hsp]at cS
        have CS:=hQ9 cS
        clear cS
        clear hesc hsp hFb
        have HGP6:=hg2
        skip
        go_wp2_with(first
         | (go_at_call 154;refine(CS.out _).mono ?_;rintro e w' ⟨rfl,hw⟩;have hw:=hw.symm;subst hw)
         | (at_builtin;refine zx rfl (.tmp 43) (.tmp 44) 120 rfl w.heap.size 5 i0 (.int .u8 0) 1 Tryz.underlying120 hi hz0 hz1 hz2 rfl _ (O.length+1+F.length) (byL (O++[124]++F)) rfl (hown.alloc _) (wr.heap.size+1) (some ⟨wr.heap.size,0,none⟩) 1 1 [.int .u8 92] rfl rfl (yb wr 5 #[.int .u8 92] (0,0)) (xf _ _) (by unfold maxLen;omega) (by omega) (by simp;omega) ?_;intro v6 w6 hown6 hgrow6 _;have hg6:=yi HGP6 hgrow6 (zu hown);have hzz6:=hg6.size)
         | (have HGP7:=hg6;(at_builtin;refine zx rfl (.tmp 46) (.tmp 50) 120 rfl w.heap.size 5 i0 (.int .u8 0) 1 Tryz.underlying120 hi hz0 hz1 hz2 rfl _ (O.length+1+F.length+1) (byL (O++[124]++F)++[.int .u8 92]) rfl (hown6.alloc _) (w6.heap.size+1) (some ⟨w6.heap.size,0,none⟩) 1 1 [.int .u8 (s[k].toNat:Int)] rfl rfl (yb w6 5 #[.int .u8 (s[k].toNat:Int)] (0,0)) (xf _ _) (by unfold maxLen;omega) (by omega) (by simp;omega) ?_;intro v7 w7 hown7 hgrow7 _;have hg7:=yi HGP7 hgrow7 (zu hown6);have hzz7:=hg7.size)))
        go_roundw
        case rel=>exact⟨k+1,F++[92,s[k]],by omega,by go_num,hQ9 (by rw [HFT.out,←HF.out,HES.out]),by rw [List.length_append];exact hlen2,by rw [List.length_append];exact zbk hown7,hg7⟩
        case measure=>have h9:=HK1.out;simp [intOf];omega
       ·have hesc:esc s[k]=[s[k]]:=by rw [esc,if_neg hsp]
        have HES:=hQ9 hesc
        have hlen2:F.length+1≤(fld s.data.toList).length:=by
         rw [HFT.out,←HF.out,hesc]at hFb;simpa using hFb
        have hspf:spec s[k]=false:=by simpa using hsp
        have cS:=fun W=>ke s[k] W
        simp only [hspf]at cS
        have CS:=hQ9 cS
        clear cS hspf
        clear hesc hsp hFb
        have HGP7:=hg2
        go_wp2_with(first
         | (go_at_call 154;refine(CS.out _).mono ?_;rintro e w' ⟨rfl,hw⟩;have hw:=hw.symm;subst hw)
         | (at_builtin;refine zx rfl (.tmp 46) (.tmp 50) 120 rfl w.heap.size 5 i0 (.int .u8 0) 1 Tryz.underlying120 hi hz0 hz1 hz2 rfl _ (O.length+1+F.length) (byL (O++[124]++F)) rfl (hown.alloc _) (wr.heap.size+1) (some ⟨wr.heap.size,0,none⟩) 1 1 [.int .u8 (s[k].toNat:Int)] rfl rfl (yb wr 5 #[.int .u8 (s[k].toNat:Int)] (0,0)) (xf _ _) (by unfold maxLen;omega) (by omega) (by simp;omega) ?_;intro v7 w7 hown7 hgrow7 _;have hg7:=yi HGP7 hgrow7 (zu hown);have hzz7:=hg7.size))
        go_roundw
        case rel=>exact⟨k+1,F++[s[k]],by omega,by go_num,hQ9 (by rw [HFT.out,←HF.out,HES.out]),by rw [List.length_append];exact hlen2,by rw [List.length_append];exact zdx hown7,hg7⟩
        case measure=>have h9:=HK1.out;simp [intOf];omega
      ·obtain rfl:k=s.size:=by omega
       have hkk:s.data.toList.take s.size=s.data.toList:=List.take_of_length_le (by simp)
       have HKK:=hQ9 hkk
       clear hkk
       go_wp2_with fail
       go_roundw
       case rel=>exact⟨i+1,O++[124]++F,by omega,by go_num,hQ9 (by rw [HT.out,yF,←HO.out,yt,yV,HF.out,HKK.out];simp),by rw [List.length_append,List.length_append];exact hown,hg2⟩
       case measure=>simp [intOf];omega
    ·obtain rfl:i=l.length:=by omega
     rw [List.take_length]at HO
     obtain⟨A',c',rfl,_,_,hrd⟩:=zU hown
     have hcv:=xW (P:=Tryz.prog) wr wr.heap.size 120 9 5 A' O.length c' O rfl Tryz.underlying120 Tryz.underlying5 Tryz.underlying9 hrd
     go_wp2_with fail
     go_ret
     exact⟨by rw [HO.out];rfl,hg⟩
def cntRes:Option (List (List UInt8))→Value
 | none=>.tuple #[.int .i64 0,.int .i64 2]
 | some l=>.tuple #[.int .i64 (l.length:Int),.int .i64 0]
def CntP (S:List UInt8) (k n:Nat):Prop:=(k=0∧n=0)∨∃ cur done,splitF S=parse (S.drop k) false cur done∧n=done.length+1
theorem zmc {S:List UInt8} {k n:Nat} (h:CntP S k n) (hk:k<S.length) (hc:S[k]=124):CntP S (k+1) (n+1):=by
 rcases h with ⟨rfl,rfl⟩ | ⟨cur,done,h1,rfl⟩
 ·refine .inr ⟨[],[],?_,rfl⟩
  cases S with
  | nil=>simp at hk
  | cons c S=>simp at hc;subst hc;rw [splitF,if_pos rfl];rfl
 ·refine .inr ⟨[],done++[cur],?_,by simp⟩
  rw [h1,List.drop_eq_getElem_cons hk,hc,jN]
theorem zmd {S:List UInt8} {k n:Nat} (h:CntP S k n) (h0:1≤k) (hk:k<S.length) (h1:S[k]≠124) (h2:S[k]≠92):CntP S (k+1) n:=by
 rcases h with ⟨rfl,_⟩ | ⟨cur,done,he,rfl⟩
 ·omega
 ·exact .inr ⟨cur++[S[k]],done,by rw [he,List.drop_eq_getElem_cons hk,kQ _ _ _ _ h1 h2],rfl⟩
theorem zme {S:List UInt8} {k n:Nat} (h:CntP S k n) (h0:1≤k) (hk:k+1<S.length) (h1:S[k]=92) (h2:spec S[k+1]=true):CntP S (k+2) n:=by
 rcases h with ⟨rfl,_⟩ | ⟨cur,done,he,rfl⟩
 ·omega
 ·exact .inr ⟨cur++[S[k+1]],done,by rw [he,List.drop_eq_getElem_cons (by omega:k<S.length),List.drop_eq_getElem_cons hk,h1,jm _ _ _ _ h2],rfl⟩
theorem zmf {S:List UInt8} {k n:Nat} (h:CntP S k n) (h0:1≤k) (hk:k+1<S.length) (h1:S[k]=92) (h2:spec S[k+1]=false):splitF S=none:=by
 rcases h with ⟨rfl,_⟩ | ⟨cur,done,he,rfl⟩
 ·omega
 ·rw [he,List.drop_eq_getElem_cons (by omega:k<S.length),List.drop_eq_getElem_cons hk,h1,jz _ _ _ _ h2]
theorem zmg {S:List UInt8} {k n:Nat} (h:CntP S k n) (h0:1≤k) (hk:k+1=S.length) (h1:S[k]=92):splitF S=none:=by
 rcases h with ⟨rfl,_⟩ | ⟨cur,done,he,rfl⟩
 ·omega
 ·rw [he,List.drop_eq_getElem_cons (by omega:k<S.length),h1,List.drop_eq_nil_of_le (by omega),jA]
theorem zmh {S:List UInt8} {n:Nat} (h:CntP S S.length n):∃ l,splitF S=some l∧n=l.length:=by
 rcases h with ⟨h0,rfl⟩ | ⟨cur,done,he,rfl⟩
 ·exact⟨[],by rw [List.eq_nil_of_length_eq_zero h0];rfl,rfl⟩
 ·exact⟨done++[cur],by rw [he,List.drop_length,jM],by simp⟩
theorem u8_eq (c:UInt8) (n:Nat) (hn:n<256) (h:(c.toNat:Int)=(n:Int)):c=UInt8.ofNat n:=UInt8.toNat_inj.1 (by rw [UInt8.toNat_ofNat'];omega)
theorem yr (s:ByteArray) (k:Nat) (h:k<s.size) (h':k<s.data.toList.length):s.data.toList[k]=s[k]:=rfl
theorem zmi (s:ByteArray) (hs:s.size≤100000000) (w:World) :
 Calls Tryz.prog 145 #[.string s] w fun e w'=>e=.returned (cntRes (splitF s.data.toList))∧w'=w:=by
 by_cases h0:s.size=0
 ·obtain rfl:s=⟨#[]⟩:=by
   cases s with
   | mk d=>congr 1;exact Array.eq_empty_of_size_eq_zero h0
  go_enter Tryz.func145,Tryz.ntmps145
  go_wp2_with fail
  go_loop [4,5] (fun nv iv=>nv=.int .i64 0∧iv=.int .i64 0) (fun _ _=>0)
  case atStart=>exact⟨rfl,rfl⟩
  case round =>
   obtain⟨rfl,rfl⟩:=hrel
   go_wp2_with fail
   go_ret2
   exact⟨rfl,rfl⟩
 ·have hie:s.toList.isEmpty=false:=by
   rw [ByteArray.toList_eq]
   cases hl:s.data.toList with
   | nil=>exact absurd (by have h3:=congrArg List.length hl;simpa using h3) h0
   | cons _ _=>rfl
  have hie2:¬s.toList=[]:=fun e=>by rw [e]at hie;simp at hie
  have hp:0<s.size:=by omega
  have hp1:(0:Int)<(s.size:Int):=by omega
  by_cases hb:(s[0].toNat:Int)=124
  ·go_enter Tryz.func145,Tryz.ntmps145
   go_wp2_with fail
   have hsl:s.data.toList.length=s.size:=by simp
   have HSL:=hQ9 hsl
   clear hsl
   go_loop [4,5] (fun nv iv=>∃ k n:Nat,k≤s.size∧n≤k∧iv=.int .i64 k∧nv=.int .i64 n∧Hid (CntP s.data.toList k n)∧Hid (k=0→n=0)) (fun _ iv=>s.size-(intOf iv).toNat)
   case atStart=>exact⟨0,0,Nat.zero_le _,zN9 _,rfl,rfl,hQ9 (.inl ⟨rfl,rfl⟩),hQ9 (fun _=>rfl)⟩
   case round =>
    obtain⟨k,n,hk,hnk,rfl,rfl,HP,HZ⟩:=hrel
    by_cases hlt:k<s.size
    ·have hk0:(0:Int)≤(k:Int):=by omega
     have hk1:(k:Int)<(s.size:Int):=by omega
     have e1:IntKind.i64.wrap ((k:Int)+1)=((k+1:Nat):Int):=by rw [IntWalk.i64_in _ (by omega)];omega
     have e2:IntKind.i64.wrap ((n:Int)+1)=((n+1:Nat):Int):=by rw [IntWalk.i64_in _ (by omega)];omega
     have HLT:=hQ9 (show k<s.data.toList.length by rw [HSL.out];exact hlt)
     have hone:(s[k]'hlt).toNat≠124→1≤k:=fun h=>by
      rcases Nat.eq_zero_or_pos k with h3 | h3
      ·subst h3;exact absurd (by omega) h
      ·exact h3
     have HONE:=hQ9 hone
     clear hone
     by_cases ha:((s[k]'hlt).toNat:Int)=124
     ·have HN:=hQ9 (zmc HP.out HLT.out (by rw [yr s k hlt HLT.out];exact u8_eq _ 124 (by omega) ha))
      have HK1:=hQ9 hk1
      go_wp2_with fail
      go_round
      case rel=>exact⟨k+1,n+1,by have:=HK1.out;omega,by omega,by go_num,by go_num,HN,hQ9 (fun h=>by omega)⟩
      case measure=>have h9:=HK1.out;simp [intOf];omega
     ·have h1k:1≤k:=HONE.out (fun h=>ha (by omega))
      have hda:(((s[k]'hlt).toNat:Int)==124)=false:=by simpa using ha
      have hdb:decide (((s[k]'hlt).toNat:Int)=124)=false:=zF9 ha
      by_cases hbs:((s[k]'hlt).toNat:Int)=92
      ·have hc92:s.data.toList[k]'HLT.out=92:=by rw [yr s k hlt HLT.out];exact u8_eq _ 92 (by omega) hbs
       have HC:=hQ9 hc92
       clear hc92
       by_cases hend:k+1=s.size
       ·have H1:=hQ9 (zmg HP.out h1k (by rw [HSL.out];exact hend) HC.out)
        have he1:((k+1:Nat):Int)=(s.size:Int):=by omega
        rw [he1]at e1
        clear he1
        go_wp2_with fail
        go_ret2
        exact⟨by rw [H1.out];rfl,rfl⟩
       ·have hlt2:k+1<s.size:=by omega
        obtain⟨m,hm⟩:∃ m,k+1=m:=⟨_,rfl⟩
        rw [hm]at e1 hend hlt2
        have hm0:(0:Int)≤(m:Int):=by omega
        have hm1:(m:Int)<(s.size:Int):=by omega
        have hm2:¬(m:Int)=(s.size:Int):=by omega
        have HM:=hQ9 hm
        have HLM:=hQ9 (show m<s.data.toList.length by rw [HSL.out];exact hlt2)
        have e3:IntKind.i64.wrap ((m:Int)+1)=((m+1:Nat):Int):=by rw [IntWalk.i64_in _ (by omega)];omega
        by_cases hsp:spec (s[m]'hlt2)=true
        ·have cS:=fun W=>ke (s[m]'hlt2) W
         simp only [hsp]at cS
         have CS:=hQ9 cS
         have HN:Hid (CntP s.data.toList (m+1) n):=hQ9 (by
          subst hm
          exact zme HP.out h1k (by rw [HSL.out];exact hlt2) HC.out (by rw [yr s (k+1) hlt2];exact hsp))
         have HK1:=hQ9 hm1
         have HNK:=hQ9 (show n≤m+1 by omega)
         clear cS hsp hm
         go_wp2_with(first | (go_at_call 154;refine(CS.out _).mono ?_;rintro e w' ⟨rfl,rfl⟩))
         go_round
         case rel=>exact⟨m+1,n,by have:=HK1.out;omega,HNK.out,by go_num,rfl,HN,hQ9 (fun h=>by omega)⟩
         case measure=>have h9:=HK1.out;have h8:=HM.out;simp [intOf];omega
        ·have hspf:spec (s[m]'hlt2)=false:=by simpa using hsp
         have cS:=fun W=>ke (s[m]'hlt2) W
         simp only [hspf]at cS
         have CS:=hQ9 cS
         have H1:Hid (splitF s.data.toList=none):=hQ9 (by
          subst hm
          exact zmf HP.out h1k (by rw [HSL.out];exact hlt2) HC.out (by rw [yr s (k+1) hlt2];exact hspf))
         clear cS hsp hspf hm
         go_wp2_with(first | (go_at_call 154;refine(CS.out _).mono ?_;rintro e w' ⟨rfl,rfl⟩))
         go_ret2
         exact⟨by rw [H1.out];rfl,rfl⟩
      ·have hdc:(((s[k]'hlt).toNat:Int)==92)=false:=by simpa using hbs
       have hdd:decide (((s[k]'hlt).toNat:Int)=92)=false:=zF9 hbs
       have HN:=hQ9 (zmd HP.out h1k HLT.out (by rw [yr s k hlt HLT.out];intro h;exact ha (by rw [h];rfl)) (by rw [yr s k hlt HLT.out];intro h;exact hbs (by rw [h];rfl)))
       have HK1:=hQ9 hk1
       go_wp2_with fail
       go_round
       case rel=>exact⟨k+1,n,by have:=HK1.out;omega,by omega,by go_num,rfl,HN,hQ9 (fun h=>by omega)⟩
       case measure=>have h9:=HK1.out;simp [intOf];omega
    ·obtain rfl:k=s.size:=by omega
     have hend:∃ l,splitF s.data.toList=some l∧n=l.length:=zmh (by rw [HSL.out];exact HP.out)
     obtain⟨l,h1,rfl⟩:=hend
     have H1:=hQ9 h1
     clear h1
     go_wp2_with fail
     go_ret2
     exact⟨by rw [H1.out];rfl,rfl⟩
  ·have hd:((s[0].toNat:Int)==124)=false:=by simpa using hb
   have hno:splitF s.data.toList=none:=by
    have hl:0<s.data.toList.length:=by simpa using hp
    cases hq:s.data.toList with
    | nil=>rw [hq]at hl;simp at hl
    | cons c S =>
     have hc:c=s[0]:=by
      have h3:=yr s 0 hp hl
      simp only [hq]at h3
      exact h3
     rw [splitF,if_neg (fun h=>hb (by rw [←hc,h];rfl))]
   rw [hno]
   clear hno
   go_enter Tryz.func145,Tryz.ntmps145
   go_wp2_with fail
   go_ret2
   exact⟨rfl,rfl⟩
def txt (l:List (List UInt8)):List ByteArray:=l.map fun f=>⟨f.toArray⟩
theorem zdy (l:List (List UInt8)) (f:List UInt8):strL (txt (l++[f]))=strL (txt l)++[.string ⟨f.toArray⟩]:=by simp [txt,strL]
theorem zjx:(Tryz.prog.info? 9).map (fun i=>(i.zero,i.size,i.bytes))=some (some (.string ⟨#[]⟩),1,16):=by kernel_rfl
def SplP (S:List UInt8) (k:Nat) (on:Bool) (cur:List UInt8) (done:List (List UInt8)):Prop :=
 (k=0∧on=false∧cur=[]∧done=[])∨(1≤k∧on=true∧splitF S=parse (S.drop k) false cur done)
theorem zh2 {S:List UInt8} {cur:List UInt8} {done:List (List UInt8)} (h:SplP S 0 false cur done) (hk:0<S.length) (hc:S[0]=124):SplP S 1 true [] []:=by
 cases S with
 | nil=>simp at hk
 | cons c S=>simp at hc;subst hc;exact .inr ⟨zN9 _,rfl,by rw [splitF,if_pos rfl];rfl⟩
theorem zmj {S:List UInt8} (hk:0<S.length) (hc:S[0]≠124):splitF S=none:=by
 cases S with
 | nil=>simp at hk
 | cons c S=>simp at hc;rw [splitF,if_neg hc]
theorem zmk {S:List UInt8} {k:Nat} {cur:List UInt8} {done:List (List UInt8)} (h:SplP S k true cur done) (hk:k<S.length) (hc:S[k]=124):SplP S (k+1) true [] (done++[cur]):=by
 rcases h with ⟨_,h,_⟩ | ⟨h1,_,h2⟩
 ·cases h
 ·exact .inr ⟨by omega,rfl,by rw [h2,List.drop_eq_getElem_cons hk,hc,jN]⟩
theorem zml {S:List UInt8} {k:Nat} {cur:List UInt8} {done:List (List UInt8)} (h:SplP S k true cur done) (hk:k<S.length) (h1:S[k]≠124) (h2:S[k]≠92):SplP S (k+1) true (cur++[S[k]]) done:=by
 rcases h with ⟨_,h,_⟩ | ⟨h3,_,h4⟩
 ·cases h
 ·exact .inr ⟨by omega,rfl,by rw [h4,List.drop_eq_getElem_cons hk,kQ _ _ _ _ h1 h2]⟩
theorem zmm {S:List UInt8} {k:Nat} {cur:List UInt8} {done:List (List UInt8)} (h:SplP S k true cur done) (hk:k+1<S.length) (h1:S[k]=92) (h2:spec S[k+1]=true):SplP S (k+2) true (cur++[S[k+1]]) done:=by
 rcases h with ⟨_,h,_⟩ | ⟨h3,_,h4⟩
 ·cases h
 ·exact .inr ⟨by omega,rfl,by rw [h4,List.drop_eq_getElem_cons (by omega:k<S.length),List.drop_eq_getElem_cons hk,h1,jm _ _ _ _ h2]⟩
theorem zmn {S:List UInt8} {k:Nat} {cur:List UInt8} {done:List (List UInt8)} (h:SplP S k true cur done) (hk:k+1<S.length) (h1:S[k]=92) (h2:spec S[k+1]=false):splitF S=none:=by
 rcases h with ⟨_,h,_⟩ | ⟨h3,_,h4⟩
 ·cases h
 ·rw [h4,List.drop_eq_getElem_cons (by omega:k<S.length),List.drop_eq_getElem_cons hk,h1,jz _ _ _ _ h2]
theorem zmo {S:List UInt8} {k:Nat} {cur:List UInt8} {done:List (List UInt8)} (h:SplP S k true cur done) (hk:k+1=S.length) (h1:S[k]=92):splitF S=none:=by
 rcases h with ⟨_,h,_⟩ | ⟨h3,_,h4⟩
 ·cases h
 ·rw [h4,List.drop_eq_getElem_cons (by omega:k<S.length),h1,List.drop_eq_nil_of_le (by omega),jA]
theorem zmp {S:List UInt8} {on:Bool} {cur:List UInt8} {done:List (List UInt8)} (h:SplP S S.length on cur done):splitF S=some (if on=true then done++[cur] else []):=by
 rcases h with ⟨h1,rfl,_⟩ | ⟨_,rfl,h2⟩
 ·rw [List.eq_nil_of_length_eq_zero h1];rfl
 ·rw [h2,List.drop_length,jM];rfl
def SplOut (S:List UInt8) (w:World) (e:Ending) (w':World):Prop :=
 (splitF S=none∧e=.returned (.tuple #[.slice none 0 0,.int .i64 2])) ∨
 ∃ l,splitF S=some l∧((4096<l.length∧e=.returned (.tuple #[.slice none 0 0,.int .i64 4]))∨(l.length≤4096∧∃ v,e=.returned (.tuple #[v,.int .i64 0])∧w'.ownsRow w.heap.size 9 1 v l.length (strL (txt l))))
end Go.Proofs.YtkpnheenacchhaaGreatDoor
