/- folkmoot/folkmootlaw1.Ints. -/
import Derived.Test.YtidjnnnigcmdpaaGreatDoorJzz
import Derived.Test.YtidjnnnigcmdpaaGreatDoorProg
import Derived.Test.YtidjnnnigcmdpaaGreatDoorJai
import Derived.Test.YtidjnnnigcmdpaaGreatDoorJac
import Derived.Laws.MakeOwn
set_option maxHeartbeats 1000000
set_option maxRecDepth 100000
set_option linter.unusedSimpArgs false
set_option linter.unusedVariables false
set_option linter.unnecessarySimpa false
namespace Go.Proofs.YtidjnnnigcmdpaaGreatDoor
open Go.RowKit
def strL (l:List ByteArray):List Value:=l.map .string
theorem zcw (l:List ByteArray):(strL l).length=l.length:=by simp [strL]
theorem zbr {w:World} {B:Nat} {A:Option Addr} {l:List ByteArray} (h:Rd w B A (strL l)) (k:Nat) (hk:k<l.length):∃ ad,A=some ad∧ad.block<B∧w.cell? (ad.add k)=some (.string l[k]):=by
 obtain⟨ad,h1,h2,h3⟩:=h k (by rw [zcw];exact hk)
 exact⟨ad,h1,h2,by rw [h3];simp [strL]⟩
def bys (l:List ByteArray):List (List UInt8):=l.map fun s=>s.data.toList
def byL (l:List UInt8):List Value:=l.map byteV
theorem xC (a b:List UInt8):byL (a++b)=byL a++byL b:=by simp [byL]
theorem zdk (l:List UInt8):∀ u∈byL l,u.oneCell'=true:=by
 intro u hu
 obtain⟨c,_,rfl⟩:=List.mem_map.1 hu
 rfl
theorem zf0 (s:ByteArray) (k:Nat) (h:k<s.size):s.data.toList.take (k+1)=s.data.toList.take k++[s[k]]:=by
 have hk:k<s.data.toList.length:=by simpa using h
 rw [List.take_succ_eq_append_getElem hk]
 rfl
theorem zbs (l:List ByteArray) (i:Nat) (h:i<l.length):bys (l.take (i+1))=bys (l.take i)++[l[i].data.toList]:=by
 rw [List.take_succ_eq_append_getElem h]
 unfold bys
 rw [List.map_append]
 rfl
theorem zbt (s:ByteArray) (k:Nat) (h:k<s.size):fld (s.data.toList.take (k+1))=fld (s.data.toList.take k)++esc s[k]:=by
 rw [zf0 s k h,qq,jL,zdd,List.append_nil]
theorem jz (f:List UInt8) (k:Nat):(fld (f.take k)).length≤(fld f).length:=by
 have h:=qq (f.take k) (f.drop k)
 rw [List.take_append_drop]at h
 rw [h];simp
theorem kP (l:List (List UInt8)) (k:Nat):(joinF (l.take k)).length≤(joinF l).length:=by
 have h:=yH (l.take k) (l.drop k)
 rw [List.take_append_drop]at h
 rw [h];simp
theorem zdl:(Tryz.prog.info? 5).map (fun i=>(i.zero,i.size,i.bytes))=some (some (.int .u8 0),1,1):=by kernel_rfl
theorem qC (c:UInt8) (w:World):Calls Tryz.prog 141 #[.int .u8 (c.toNat:Int)] w fun e w'=>e=.returned (.bool (spec c))∧w'=w:=by
 have hsp:spec c=(decide ((c.toNat:Int)=124)||decide ((c.toNat:Int)=92)):=by
  have h1:(c==124)=decide ((c.toNat:Int)=124):=by
   rw [Bool.eq_iff_iff,beq_iff_eq,decide_eq_true_iff]
   constructor
   ·intro h;subst h;rfl
   ·intro h;exact UInt8.toNat_inj.1 (by rw [show(124:UInt8).toNat=124 from rfl];omega)
  have h2:(c==92)=decide ((c.toNat:Int)=92):=by
   rw [Bool.eq_iff_iff,beq_iff_eq,decide_eq_true_iff]
   constructor
   ·intro h;subst h;rfl
   ·intro h;exact UInt8.toNat_inj.1 (by rw [show(92:UInt8).toNat=92 from rfl];omega)
  rw [spec,h1,h2]
 have HS:=hQ9 hsp
 clear hsp
 by_cases h1:(c.toNat:Int)=124
 ·have hs:spec c=true:=by rw [HS.out,decide_eq_true h1];rfl
  rw [hs]
  clear hs
  go_enter Tryz.func141,Tryz.ntmps141
  go_wp2_with fail
  go_ret
  exact⟨rfl,rfl⟩
 ·by_cases h2:(c.toNat:Int)=92
  ·have hs:spec c=true:=by rw [HS.out,decide_eq_true h2];simp
   rw [hs]
   clear hs
   go_enter Tryz.func141,Tryz.ntmps141
   go_wp2_with fail
   go_ret
   exact⟨rfl,rfl⟩
  ·have hs:spec c=false:=by rw [HS.out,decide_eq_false h1,decide_eq_false h2];rfl
   rw [hs]
   clear hs
   go_enter Tryz.func141,Tryz.ntmps141
   go_wp2_with fail
   go_ret
   exact⟨by simp [h1,h2],rfl⟩
theorem yE {a b c:World} {o:Obj} {r:Option Nat} (h:Grew a b) (k:(b.alloc o).grownBy c r) (hr:∀ i,r=some i→a.heap.size≤i):Grew a c:=(h.alloc h.size o).grown k (by have:=h.size;simp;omega) hr
theorem zj4 (c:UInt8):(esc c).length≤2:=by
 unfold esc;split<;>simp
theorem zV (f:List UInt8):(fld f).length≤2*f.length:=by
 induction f with
 | nil=>simp [zdd]
 | cons c f ih=>rw [jL,List.length_append,List.length_cons];have:=zj4 c;omega
theorem zbu (f:List UInt8):f.length≤(fld f).length:=by
 induction f with
 | nil=>simp
 | cons c f ih =>
  rw [jL,List.length_append,List.length_cons]
  have:1≤(esc c).length:=by unfold esc;split<;>simp
  omega
theorem q4 {w:World} {b n f:Nat} {e:TypeId} {v:Value} {P F:List UInt8} {c0:UInt8} (h:w.ownsRow b e 1 v (n+f+1+1) (byL (P++F)++[.int .u8 92]++[.int .u8 (c0.toNat:Int)])):w.ownsRow b e 1 v (n+(f+[(92:UInt8),c0].length)) (byL (P++(F++[92,c0]))):=by
 have e1:byL (P++(F++[92,c0]))=byL (P++F)++[.int .u8 92]++[.int .u8 (c0.toNat:Int)]:=by
  rw [←List.append_assoc,xC (P++F)]
  simp [byL,byteV]
 rw [e1,show n+(f+[(92:UInt8),c0].length)=n+f+1+1 by simp;omega]
 exact h
theorem zbv {w:World} {b n f:Nat} {e:TypeId} {v:Value} {P F:List UInt8} {c0:UInt8} (h:w.ownsRow b e 1 v (n+f+1) (byL (P++F)++[.int .u8 (c0.toNat:Int)])):w.ownsRow b e 1 v (n+(f+[c0].length)) (byL (P++(F++[c0]))):=by
 have e1:byL (P++(F++[c0]))=byL (P++F)++[.int .u8 (c0.toNat:Int)]:=by
  rw [←List.append_assoc,xC (P++F)]
  simp [byL,byteV]
 rw [e1,show n+(f+[c0].length)=n+f+1 by simp;omega]
 exact h
theorem zbw (A:Option Addr) (c:Nat) (l:List ByteArray) (hl:l.length≤1048576) (hB:(joinF (bys l)).length≤100000000) (w:World) (hr:Rd w w.heap.size A (strL l)) :
 Calls Tryz.prog 90 #[.slice A l.length c] w fun e w'=>e=.returned (.string ⟨(joinF (bys l)).toArray⟩)∧Grew w w':=by
 obtain⟨i0,hi,hz0,hz1,hz2⟩:=info_parts zdl
 go_enter Tryz.func90,Tryz.ntmps90
 go_wp2_with fail
 go_loopw [3,4] (fun ov iv wr=>∃(i:Nat) (O:List UInt8),i≤l.length∧iv=.int .i64 i∧Hid (O=joinF (bys (l.take i)))∧wr.ownsRow w.heap.size 5 1 ov O.length (byL O)∧Grew w wr) (fun _ iv _=>l.length-(intOf iv).toNat)
 case atStart=>exact⟨0,[],Nat.zero_le _,rfl,hQ9 (by simp [bys,joinF]),World.ownsRow_nil _ _ _ _,Below.refl _ _⟩
 case round =>
  obtain⟨i,O,hil,rfl,HO,hown,hg⟩:=hrel
  by_cases hlt:i<l.length
  ·obtain⟨ad,rfl,hbl,hc0⟩:=zbr (hr.below hg) i hlt
   have hi0:(0:Int)≤(i:Int):=by omega
   have hi1:(i:Int)<(l.length:Int):=by omega
   have HT:=hQ9 (zbs l i hlt)
   have hJ:(joinF (bys (l.take (i+1)))).length≤100000000:=by
    have:=kP (bys l) (i+1)
    have h2:(bys l).take (i+1)=bys (l.take (i+1)):=by simp [bys]
    rw [h2]at this;omega
   have hz:=hg.size
   generalize l[i]=s at *
   have hOJ:O.length+1+(fld s.data.toList).length≤100000000:=by
    rw [HT.out,yH,yU,xS,←HO.out]at hJ
    simp at hJ;omega
   clear hJ
   go_wp2_with(at_builtin;refine zF rfl (.tmp 13) (.tmp 14) 136 rfl w.heap.size 5 i0 (.int .u8 0) 1 Tryz.underlying136 hi hz0 hz1 hz2 rfl _ O.length (byL O) rfl (hown.alloc _) (wr.heap.size+1) (some ⟨wr.heap.size,0,none⟩) 1 1 (byL [124]) rfl rfl (yq wr 5 #[.int .u8 124] (0,0)) (zdk _) (by unfold maxLen;omega) (by omega) (by simp;omega) ?_;intro v3 w3 hown3 hgrow3 _;have hg3:=yE hg hgrow3 (zA hown))
   rw [←xC]at hown3
   have hc3:∀ {W:World},Grew w W→W.cell? (ad.add i)=some (.string s):=fun {W} h=>by
    have h1:=hg.cell (p:=ad.add i) (by rw [zv];omega)
    have h2:=h.cell (p:=ad.add i) (by rw [zv];omega)
    rw [h2,←h1];exact hc0
   have HC3:=hQ9 (fun W h=>hc3 (W:=W) h)
   clear hown hgrow3 hc3 hc0
   go_loopw [3,5] (fun ov kv w2=>∃(k:Nat) (F:List UInt8),k≤s.size∧kv=.int .i64 k∧Hid (F=fld (s.data.toList.take k))∧F.length≤(fld s.data.toList).length∧w2.ownsRow w.heap.size 5 1 ov (O.length+1+F.length) (byL (O++[124]++F))∧Grew w w2) (fun _ kv _=>s.size-(intOf kv).toNat)
   case atStart=>exact⟨0,[],Nat.zero_le _,rfl,hQ9 (by simp [fld]),by simp,by simpa using hown3,hg3⟩
   case round =>
    obtain⟨k,F,hk,rfl,HF,hFl,hown,hg2⟩:=hrel
    have hcs:=HC3.out _ hg2
    by_cases hks:k<s.size
    ·have HFT:=hQ9 (zbt s k hks)
     have hFb:=jz s.data.toList (k+1)
     have hk0:(0:Int)≤(k:Int):=by omega
     have hk1:(k:Int)<(s.size:Int):=by omega
     have hz2s:=hg2.size
     have hc256:=s[k].toNat_lt
     have hsz:s.size≤100000000:=by have h9:=zbu s.data.toList;simp only [Array.length_toList]at h9;have h10:s.data.size=s.size:=rfl;omega
     have e4:IntKind.i64.wrap ((k:Int)+1)=(k:Int)+1:=IntWalk.i64_in _ (by omega)
     have HK1:=hQ9 hk1
     by_cases hsp:spec s[k]=true
     ·have hesc:esc s[k]=[92,s[k]]:=by rw [esc,if_pos hsp]
      have HES:=hQ9 hesc
      have hlen2:F.length+2≤(fld s.data.toList).length:=by
       rw [HFT.out,←HF.out,hesc]at hFb;simpa using hFb
      have hor:(s[k].toNat:Int)=124∨(s[k].toNat:Int)=92:=by
       have h9:=hsp
       simp only [spec,Bool.or_eq_true,beq_iff_eq]at h9
       rcases h9 with h9 | h9
       ·exact .inl (by rw [h9];rfl)
       ·exact .inr (by rw [h9];rfl)
      clear hesc hsp hFb
      have HGP6:=hg2
      rcases hor with hn | hn
      ·have HN:=hQ9 hn
       go_wp2_with(first
        | (at_builtin;refine zF rfl (.tmp 37) (.tmp 38) 136 rfl w.heap.size 5 i0 (.int .u8 0) 1 Tryz.underlying136 hi hz0 hz1 hz2 rfl _ (O.length+1+F.length) (byL (O++[124]++F)) rfl (hown.alloc _) (wr.heap.size+1) (some ⟨wr.heap.size,0,none⟩) 1 1 [.int .u8 92] rfl rfl (yq wr 5 #[.int .u8 92] (0,0)) (yX _ _) (by unfold maxLen;omega) (by omega) (by simp;omega) ?_;intro v6 w6 hown6 hgrow6 _;have hg6:=yE HGP6 hgrow6 (zA hown);have hzz6:=hg6.size)
        | (have HGP7:=hg6;(at_builtin;refine zF rfl (.tmp 40) (.tmp 42) 136 rfl w.heap.size 5 i0 (.int .u8 0) 1 Tryz.underlying136 hi hz0 hz1 hz2 rfl _ (O.length+1+F.length+1) (byL (O++[124]++F)++[.int .u8 92]) rfl (hown6.alloc _) (w6.heap.size+1) (some ⟨w6.heap.size,0,none⟩) 1 1 [.int .u8 124] rfl rfl (yq w6 5 #[.int .u8 124] (0,0)) (yX _ _) (by unfold maxLen;omega) (by omega) (by simp;omega) ?_;intro v7 w7 hown7 hgrow7 _;have hg7:=yE HGP7 hgrow7 (zA hown6);have hzz7:=hg7.size)))
       go_roundw
       case rel=>exact⟨k+1,F++[92,s[k]],by omega,by go_num,hQ9 (by rw [HFT.out,←HF.out,HES.out]),by rw [List.length_append];exact hlen2,by rw [List.length_append];exact q4 (by rw [HN.out];exact hown7),hg7⟩
       case measure=>have h9:=HK1.out;simp [intOf];omega
      ·have HN:=hQ9 hn
       go_wp2_with(first
        | (at_builtin;refine zF rfl (.tmp 37) (.tmp 38) 136 rfl w.heap.size 5 i0 (.int .u8 0) 1 Tryz.underlying136 hi hz0 hz1 hz2 rfl _ (O.length+1+F.length) (byL (O++[124]++F)) rfl (hown.alloc _) (wr.heap.size+1) (some ⟨wr.heap.size,0,none⟩) 1 1 [.int .u8 92] rfl rfl (yq wr 5 #[.int .u8 92] (0,0)) (yX _ _) (by unfold maxLen;omega) (by omega) (by simp;omega) ?_;intro v6 w6 hown6 hgrow6 _;have hg6:=yE HGP6 hgrow6 (zA hown);have hzz6:=hg6.size)
        | (have HGP7:=hg6;(at_builtin;refine zF rfl (.tmp 40) (.tmp 42) 136 rfl w.heap.size 5 i0 (.int .u8 0) 1 Tryz.underlying136 hi hz0 hz1 hz2 rfl _ (O.length+1+F.length+1) (byL (O++[124]++F)++[.int .u8 92]) rfl (hown6.alloc _) (w6.heap.size+1) (some ⟨w6.heap.size,0,none⟩) 1 1 [.int .u8 92] rfl rfl (yq w6 5 #[.int .u8 92] (0,0)) (yX _ _) (by unfold maxLen;omega) (by omega) (by simp;omega) ?_;intro v7 w7 hown7 hgrow7 _;have hg7:=yE HGP7 hgrow7 (zA hown6);have hzz7:=hg7.size)))
       go_roundw
       case rel=>exact⟨k+1,F++[92,s[k]],by omega,by go_num,hQ9 (by rw [HFT.out,←HF.out,HES.out]),by rw [List.length_append];exact hlen2,by rw [List.length_append];exact q4 (by rw [HN.out];exact hown7),hg7⟩
       case measure=>have h9:=HK1.out;simp [intOf];omega
     ·have hesc:esc s[k]=[s[k]]:=by rw [esc,if_neg hsp]
      have HES:=hQ9 hesc
      have hlen2:F.length+1≤(fld s.data.toList).length:=by
       rw [HFT.out,←HF.out,hesc]at hFb;simpa using hFb
      have hn1:¬(s[k].toNat:Int)=124:=fun h=>hsp (by rw [show s[k]=124 from UInt8.toNat_inj.1 (by rw [show(124:UInt8).toNat=124 from rfl];omega)];rfl)
      have hn2:¬(s[k].toNat:Int)=92:=fun h=>hsp (by rw [show s[k]=92 from UInt8.toNat_inj.1 (by rw [show(92:UInt8).toNat=92 from rfl];omega)];rfl)
      have hd1:((s[k].toNat:Int)==124)=false:=by simpa using hn1
      have hd2:((s[k].toNat:Int)==92)=false:=by simpa using hn2
      have hd3:decide ((s[k].toNat:Int)=124)=false:=decide_eq_false hn1
      have hd4:decide ((s[k].toNat:Int)=92)=false:=decide_eq_false hn2
      clear hesc hsp hFb
      have HGP7:=hg2
      go_wp2_with(at_builtin;refine zF rfl (.tmp 40) (.tmp 42) 136 rfl w.heap.size 5 i0 (.int .u8 0) 1 Tryz.underlying136 hi hz0 hz1 hz2 rfl _ (O.length+1+F.length) (byL (O++[124]++F)) rfl (hown.alloc _) (wr.heap.size+1) (some ⟨wr.heap.size,0,none⟩) 1 1 [.int .u8 (s[k].toNat:Int)] rfl rfl (yq wr 5 #[.int .u8 (s[k].toNat:Int)] (0,0)) (yX _ _) (by unfold maxLen;omega) (by omega) (by simp;omega) ?_;intro v7 w7 hown7 hgrow7 _;have hg7:=yE HGP7 hgrow7 (zA hown);have hzz7:=hg7.size)
      go_roundw
      case rel=>exact⟨k+1,F++[s[k]],by omega,by go_num,hQ9 (by rw [HFT.out,←HF.out,HES.out]),by rw [List.length_append];exact hlen2,by rw [List.length_append];exact zbv hown7,hg7⟩
      case measure=>have h9:=HK1.out;simp [intOf];omega
    ·obtain rfl:k=s.size:=by omega
     have hkk:s.data.toList.take s.size=s.data.toList:=List.take_of_length_le (by simp)
     have HKK:=hQ9 hkk
     clear hkk
     go_wp2_with fail
     go_roundw
     case rel=>exact⟨i+1,O++[124]++F,by omega,by go_num,hQ9 (by rw [HT.out,yH,←HO.out,yU,xS,HF.out,HKK.out];simp),by rw [List.length_append,List.length_append];exact hown,hg2⟩
     case measure=>simp [intOf];omega
  ·obtain rfl:i=l.length:=by omega
   rw [List.take_length]at HO
   obtain⟨A',c',rfl,_,_,hrd⟩:=yN hown
   have hcv:=xy (P:=Tryz.prog) wr wr.heap.size 136 9 5 A' O.length c' O rfl Tryz.underlying136 Tryz.underlying5 Tryz.underlying9 hrd
   go_wp2_with fail
   go_ret
   exact⟨by rw [HO.out];rfl,hg⟩
def tot (l:List ByteArray):Nat:=(l.map fun s=>s.size).sum
theorem zhu (l:List ByteArray) (s:ByteArray):tot (l++[s])=tot l+s.size:=by simp [tot]
theorem tot_le (l:List ByteArray):l.length+tot l≤(joinF (bys l)).length:=by
 induction l with
 | nil=>simp [tot]
 | cons s l ih =>
  have h1:bys (s::l)=s.data.toList::bys l:=rfl
  have h2:=zbu s.data.toList
  have h3:s.data.toList.length=s.size:=by simp
  have h4:tot (s::l)=s.size+tot l:=by simp [tot]
  rw [h1,yU,h4]
  simp only [List.length_cons,List.length_append]
  omega
theorem zek (a b:List ByteArray):tot (a++b)=tot a+tot b:=by simp [tot]
theorem jA (l:List ByteArray) (k:Nat):tot (l.take k)≤tot l:=by
 have h:=zek (l.take k) (l.drop k)
 rw [List.take_append_drop]at h
 omega
theorem jh (A:Option Addr) (c:Nat) (l:List ByteArray) (hl:l.length≤1048576) (hB:(joinF (bys l)).length≤100000000) (w:World) (hr:Rd w w.heap.size A (strL l)) :
 Calls Tryz.prog 86 #[.slice A l.length c] w fun e w'=>e=.returned (.string ⟨(joinF (bys l)).toArray⟩)∧Grew w w':=by
 obtain⟨i0,hi,hz0,hz1,hz2⟩:=info_parts zdl
 go_enter Tryz.func86,Tryz.ntmps86
 have hlB:=tot_le l
 go_wp2_with fail
 go_loop [3,14] (fun sv iv=>∃ i:Nat,i≤l.length∧iv=.int .i64 i∧sv=.int .i64 ((l.length+tot (l.take i):Nat):Int)) (fun _ iv=>l.length-(intOf iv).toNat)
 case atStart=>exact⟨0,Nat.zero_le _,rfl,by simp [tot]⟩
 case round =>
  obtain⟨i,hil,rfl,rfl⟩:=hrel
  have htl:=jA l i
  by_cases hlt:i<l.length
  ·obtain⟨ad,rfl,hbl,hc0⟩:=zbr hr i hlt
   have hi0:(0:Int)≤(i:Int):=by omega
   have hi1:(i:Int)<(l.length:Int):=by omega
   have htl2:=jA l (i+1)
   have hts:tot (l.take (i+1))=tot (l.take i)+l[i].size:=by rw [List.take_succ_eq_append_getElem hlt,zhu]
   rw [hts]at htl2
   have HTS:=hQ9 hts
   clear hts
   generalize l[i]=s at *
   generalize tot (l.take i)=t at *
   have e1:IntKind.i64.wrap (((l.length+t:Nat):Int)+(s.size:Int))=((l.length+t+s.size:Nat):Int):=by rw [IntWalk.i64_in _ (by omega)];omega
   have e2:IntKind.i64.wrap ((l.length:Int)+(t:Int)+(s.size:Int))=((l.length+t+s.size:Nat):Int):=by rw [IntWalk.i64_in _ (by omega)];omega
   go_wp2_with fail
   go_round
   case rel=>exact⟨i+1,by omega,by go_num,by rw [HTS.out];go_num⟩
   case measure=>simp [intOf];omega
  ·obtain rfl:i=l.length:=by omega
   rw [List.take_length]
   clear htl
   obtain⟨cp,hcp⟩:∃ cp,l.length+tot l=cp:=⟨_,rfl⟩
   rw [hcp]at hlB ⊢
   clear hcp
   obtain⟨w1,hmk,hown1,hgrow1⟩:=run_make_own (P:=Tryz.prog) w w.heap.size 136 5 i0 (.int .u8 0) 1 Tryz.underlying136 hi hz0 hz1 .i64 .i64 cp (by rw [hz2];omega) (by unfold maxLen;omega) (Nat.le_refl _)
   have hg1:Grew w w1:=(Below.refl _ w).grown hgrow1 (Nat.le_refl _) (fun j hj=>by cases hj)
   clear hgrow1
   go_wp2_with fail
   clear hmk
   go_loopw [6,27] (fun ov iv wr=>∃(i:Nat) (O:List UInt8),i≤l.length∧iv=.int .i64 i∧Hid (O=joinF (bys (l.take i)))∧wr.ownsRow w.heap.size 5 1 ov O.length (byL O)∧Grew w wr) (fun _ iv _=>l.length-(intOf iv).toNat)
   case atStart=>exact⟨0,[],Nat.zero_le _,rfl,hQ9 (by simp [bys,joinF]),hown1,hg1⟩
   case round =>
    obtain⟨i,O,hil,rfl,HO,hown,hg⟩:=hrel
    by_cases hlt:i<l.length
    ·obtain⟨ad,rfl,hbl,hc0⟩:=zbr (hr.below hg) i hlt
     have hi0:(0:Int)≤(i:Int):=by omega
     have hi1:(i:Int)<(l.length:Int):=by omega
     have HT:=hQ9 (zbs l i hlt)
     have hJ:(joinF (bys (l.take (i+1)))).length≤100000000:=by
      have:=kP (bys l) (i+1)
      have h2:(bys l).take (i+1)=bys (l.take (i+1)):=by simp [bys]
      rw [h2]at this;omega
     have hz:=hg.size
     generalize l[i]=s at *
     have hOJ:O.length+1+(fld s.data.toList).length≤100000000:=by
      rw [HT.out,yH,yU,xS,←HO.out]at hJ
      simp at hJ;omega
     clear hJ
     go_wp2_with(at_builtin;refine zF rfl (.tmp 31) (.tmp 32) 136 rfl w.heap.size 5 i0 (.int .u8 0) 1 Tryz.underlying136 hi hz0 hz1 hz2 rfl _ O.length (byL O) rfl (hown.alloc _) (wr.heap.size+1) (some ⟨wr.heap.size,0,none⟩) 1 1 (byL [124]) rfl rfl (yq wr 5 #[.int .u8 124] (0,0)) (zdk _) (by unfold maxLen;omega) (by omega) (by simp;omega) ?_;intro v3 w3 hown3 hgrow3 _;have hg3:=yE hg hgrow3 (zA hown))
     rw [←xC]at hown3
     have hc3:∀ {W:World},Grew w W→W.cell? (ad.add i)=some (.string s):=fun {W} h=>by
      have h1:=hg.cell (p:=ad.add i) (by rw [zv];omega)
      have h2:=h.cell (p:=ad.add i) (by rw [zv];omega)
      rw [h2,←h1];exact hc0
     have HC3:=hQ9 (fun W h=>hc3 (W:=W) h)
     clear hown hgrow3 hc3 hc0
     go_loopw [6,36] (fun ov kv w2=>∃(k:Nat) (F:List UInt8),k≤s.size∧kv=.int .i64 k∧Hid (F=fld (s.data.toList.take k))∧F.length≤(fld s.data.toList).length∧w2.ownsRow w.heap.size 5 1 ov (O.length+1+F.length) (byL (O++[124]++F))∧Grew w w2) (fun _ kv _=>s.size-(intOf kv).toNat)
     case atStart=>exact⟨0,[],Nat.zero_le _,rfl,hQ9 (by simp [fld]),by simp,by simpa using hown3,hg3⟩
     case round =>
      obtain⟨k,F,hk,rfl,HF,hFl,hown,hg2⟩:=hrel
      have hcs:=HC3.out _ hg2
      by_cases hks:k<s.size
      ·have HFT:=hQ9 (zbt s k hks)
       have hFb:=jz s.data.toList (k+1)
       have hk0:(0:Int)≤(k:Int):=by omega
       have hk1:(k:Int)<(s.size:Int):=by omega
       have hz2s:=hg2.size
       have hc256:=s[k].toNat_lt
       have hsz:s.size≤100000000:=by have h9:=zbu s.data.toList;simp only [Array.length_toList]at h9;have h10:s.data.size=s.size:=rfl;omega
       have e4:IntKind.i64.wrap ((k:Int)+1)=(k:Int)+1:=IntWalk.i64_in _ (by omega)
       have HK1:=hQ9 hk1
       by_cases hsp:spec s[k]=true
       ·have hesc:esc s[k]=[92,s[k]]:=by rw [esc,if_pos hsp]
        have HES:=hQ9 hesc
        have hlen2:F.length+2≤(fld s.data.toList).length:=by
         rw [HFT.out,←HF.out,hesc]at hFb;simpa using hFb
        have cS:=fun W=>qC s[k] W
        simp only [hsp]at cS
        have CS:=hQ9 cS
        clear cS
        clear hesc hsp hFb
        have HGP6:=hg2
        skip
        go_wp2_with(first
         | (go_at_call 141;refine(CS.out _).mono ?_;rintro e w' ⟨rfl,hw⟩;have hw:=hw.symm;subst hw)
         | (at_builtin;refine zF rfl (.tmp 43) (.tmp 44) 136 rfl w.heap.size 5 i0 (.int .u8 0) 1 Tryz.underlying136 hi hz0 hz1 hz2 rfl _ (O.length+1+F.length) (byL (O++[124]++F)) rfl (hown.alloc _) (wr.heap.size+1) (some ⟨wr.heap.size,0,none⟩) 1 1 [.int .u8 92] rfl rfl (yq wr 5 #[.int .u8 92] (0,0)) (yX _ _) (by unfold maxLen;omega) (by omega) (by simp;omega) ?_;intro v6 w6 hown6 hgrow6 _;have hg6:=yE HGP6 hgrow6 (zA hown);have hzz6:=hg6.size)
         | (have HGP7:=hg6;(at_builtin;refine zF rfl (.tmp 46) (.tmp 50) 136 rfl w.heap.size 5 i0 (.int .u8 0) 1 Tryz.underlying136 hi hz0 hz1 hz2 rfl _ (O.length+1+F.length+1) (byL (O++[124]++F)++[.int .u8 92]) rfl (hown6.alloc _) (w6.heap.size+1) (some ⟨w6.heap.size,0,none⟩) 1 1 [.int .u8 (s[k].toNat:Int)] rfl rfl (yq w6 5 #[.int .u8 (s[k].toNat:Int)] (0,0)) (yX _ _) (by unfold maxLen;omega) (by omega) (by simp;omega) ?_;intro v7 w7 hown7 hgrow7 _;have hg7:=yE HGP7 hgrow7 (zA hown6);have hzz7:=hg7.size)))
        go_roundw
        case rel=>exact⟨k+1,F++[92,s[k]],by omega,by go_num,hQ9 (by rw [HFT.out,←HF.out,HES.out]),by rw [List.length_append];exact hlen2,by rw [List.length_append];exact q4 hown7,hg7⟩
        case measure=>have h9:=HK1.out;simp [intOf];omega
       ·have hesc:esc s[k]=[s[k]]:=by rw [esc,if_neg hsp]
        have HES:=hQ9 hesc
        have hlen2:F.length+1≤(fld s.data.toList).length:=by
         rw [HFT.out,←HF.out,hesc]at hFb;simpa using hFb
        have hspf:spec s[k]=false:=by simpa using hsp
        have cS:=fun W=>qC s[k] W
        simp only [hspf]at cS
        have CS:=hQ9 cS
        clear cS hspf
        clear hesc hsp hFb
        have HGP7:=hg2
        go_wp2_with(first
         | (go_at_call 141;refine(CS.out _).mono ?_;rintro e w' ⟨rfl,hw⟩;have hw:=hw.symm;subst hw)
         | (at_builtin;refine zF rfl (.tmp 46) (.tmp 50) 136 rfl w.heap.size 5 i0 (.int .u8 0) 1 Tryz.underlying136 hi hz0 hz1 hz2 rfl _ (O.length+1+F.length) (byL (O++[124]++F)) rfl (hown.alloc _) (wr.heap.size+1) (some ⟨wr.heap.size,0,none⟩) 1 1 [.int .u8 (s[k].toNat:Int)] rfl rfl (yq wr 5 #[.int .u8 (s[k].toNat:Int)] (0,0)) (yX _ _) (by unfold maxLen;omega) (by omega) (by simp;omega) ?_;intro v7 w7 hown7 hgrow7 _;have hg7:=yE HGP7 hgrow7 (zA hown);have hzz7:=hg7.size))
        go_roundw
        case rel=>exact⟨k+1,F++[s[k]],by omega,by go_num,hQ9 (by rw [HFT.out,←HF.out,HES.out]),by rw [List.length_append];exact hlen2,by rw [List.length_append];exact zbv hown7,hg7⟩
        case measure=>have h9:=HK1.out;simp [intOf];omega
      ·obtain rfl:k=s.size:=by omega
       have hkk:s.data.toList.take s.size=s.data.toList:=List.take_of_length_le (by simp)
       have HKK:=hQ9 hkk
       clear hkk
       go_wp2_with fail
       go_roundw
       case rel=>exact⟨i+1,O++[124]++F,by omega,by go_num,hQ9 (by rw [HT.out,yH,←HO.out,yU,xS,HF.out,HKK.out];simp),by rw [List.length_append,List.length_append];exact hown,hg2⟩
       case measure=>simp [intOf];omega
    ·obtain rfl:i=l.length:=by omega
     rw [List.take_length]at HO
     obtain⟨A',c',rfl,_,_,hrd⟩:=yN hown
     have hcv:=xy (P:=Tryz.prog) wr wr.heap.size 136 9 5 A' O.length c' O rfl Tryz.underlying136 Tryz.underlying5 Tryz.underlying9 hrd
     go_wp2_with fail
     go_ret
     exact⟨by rw [HO.out];rfl,hg⟩
end Go.Proofs.YtidjnnnigcmdpaaGreatDoor
