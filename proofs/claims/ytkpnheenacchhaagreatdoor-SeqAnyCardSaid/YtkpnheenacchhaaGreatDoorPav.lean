/- strings.SplitSeq at ",": its iterator's contract. -/
import Derived.Test.YtkpnheenacchhaaGreatDoorPzz
import Derived.Test.YtkpnheenacchhaaGreatDoorPaq
import Derived.Test.YtkpnheenacchhaaGreatDoorPao
import Derived.Test.YtkpnheenacchhaaGreatDoorPas
import Derived.Test.YtkpnheenacchhaaGreatDoorPaa
set_option maxHeartbeats 2000000
set_option maxRecDepth 100000
set_option linter.unusedSimpArgs false
set_option linter.unusedVariables false
namespace Go.Proofs.YtkpnheenacchhaaGreatDoor
open Go.RowKit Go.Shelf
attribute [local go_sem] Oper.semAt_some
theorem zfs (l:List UInt8):(Lib.index l [44]=-1∧splitC l=[l])∨(∃ i:Nat,Lib.index l [44]=(i:Int)∧i<l.length∧splitC l=l.take i::splitC (l.drop (i+1))):=by
 induction l with
 | nil=>left;exact⟨rfl,rfl⟩
 | cons b l ih =>
  by_cases hb:b=44
  ·subst hb
   right
   exact⟨0,by unfold Lib.index;rfl,by simp,by rw [splitC,if_pos rfl];rfl⟩
  ·have hp:([44]:List UInt8).isPrefixOf (b::l)=false:=by
    have:((44:UInt8)==b)=false:=by rw [beq_eq_false_iff_ne];exact Ne.symm hb
    show((44:UInt8)==b&&_)=false
    rw [this];rfl
   rcases ih with ⟨h1,h2⟩ | ⟨i,h1,h2,h3⟩
   ·left
    refine⟨by rw [Lib.index,hp,h1];rfl,by rw [splitC,if_neg hb,h2]⟩
   ·right
    refine⟨i+1,?_,by simpa using h2,?_⟩
    ·rw [Lib.index,hp,h1]
     have:((i:Int)==-1)=false:=by rw [beq_eq_false_iff_ne];omega
     rw [this];simp
    ·rw [splitC,if_neg hb,h3];simp
theorem zh6 (l:List UInt8):(splitC l).length≤l.length+1:=by
 induction l with
 | nil=>simp [splitC]
 | cons b l ih =>
  rw [splitC]
  split
  ·simp;omega
  ·split
   ·simp
   ·rename_i h;rw [h]at ih;simp at ih ⊢;omega
theorem jX (s:ByteArray) (i:Nat):(s.extract 0 i).data.toList=s.data.toList.take i:=by
 rw [Lib.extract_data];simp
theorem zd6 (s:ByteArray) (i:Nat):(s.extract i s.size).data.toList=s.data.toList.drop i:=by
 rw [Lib.extract_data,List.take_of_length_le]
 rw [List.length_drop]
 have:s.data.toList.length=s.size:=by simp
 omega
structure SpSt (b:Nat) (W:World) (r:ByteArray):Prop where
 cs:W.heap[b]?=some (.cells #[.string r] 9 (0,0))
 sep:W.cell? ⟨b+1,0,none⟩=some (.string ⟨#[44]⟩)
 sav:W.cell? ⟨b+2,0,none⟩=some (.int .i64 0)
 mx:∃ m,W.cell? ⟨5,0,none⟩=some (.int .i64 m)
def spK (b:Nat) (A B:World):Prop:=∀ j,j=5∨j=b∨j=b+1∨j=b+2→B.heap[j]?=A.heap[j]?
theorem spK_t {b:Nat} {A B C:World} (h:spK b A B) (k:spK b B C):spK b A C:=fun j hj=>(k j hj).trans (h j hj)
theorem SpSt.keep {b:Nat} {A B:World} {r:ByteArray} (h:SpSt b A r) (k:spK b A B):SpSt b B r:=by
 obtain⟨h1,h2,h3,⟨m,h4⟩⟩:=h
 exact⟨(k b (.inr (.inl rfl))).trans h1,(World.cell?_of_block (k (b+1) (.inr (.inr (.inl rfl))))).trans h2,(World.cell?_of_block (k (b+2) (.inr (.inr (.inr rfl))))).trans h3,⟨m,(World.cell?_of_block (k _ (.inl rfl))).trans h4⟩⟩
theorem SpSt.set {b:Nat} {A:World} {r:ByteArray} (h:SpSt b A r) (hb:5<b) (q:ByteArray):SpSt b (A.setCell ⟨b,0,none⟩ (.string q)) q:=by
 obtain⟨h1,h2,h3,⟨m,h4⟩⟩:=h
 have o:∀ j,j≠b→(A.setCell ⟨b,0,none⟩ (.string q)).heap[j]?=A.heap[j]?:=fun j hj=>Below.heap_setCell A ⟨b,0,none⟩ _ j hj
 refine⟨?_,(World.cell?_of_block (o (b+1) (by omega))).trans h2,(World.cell?_of_block (o (b+2) (by omega))).trans h3,⟨m,(World.cell?_of_block (o 5 (by omega))).trans h4⟩⟩
 simp [World.setCell,Array.getElem?_modify,h1]
def spM (b:Nat) (W:World):Nat:=match W.cell? ⟨b,0,none⟩with | some (.string r)=>r.size+1 | _=>0
theorem SpSt.cell {b:Nat} {W:World} {r:ByteArray} (h:SpSt b W r):W.cell? ⟨b,0,none⟩=some (.string r):=by simp [World.cell?,h.cs]
theorem SpSt.frz {b:Nat} {W:World} {r:ByteArray} (h:SpSt b W r):W.frozen? ⟨b,0,none⟩=false:=by simp [World.frozen?,h.cs]
theorem SpSt.meas {b:Nat} {W:World} {r:ByteArray} (h:SpSt b W r):spM b W=r.size+1:=by unfold spM;rw [h.cell]
abbrev Txt:={ x:ByteArray // x.size<4294967281 }
def txs (l:List Txt):List (List UInt8):=l.map fun x=>x.1.data.toList
theorem kD (l:List Txt) (x:Txt):txs (l++[x])=txs l++[x.1.data.toList]:=by simp [txs]
theorem zj5 (n:Nat) (hn:1≤n) (b:Nat) (hb:5<b) (s:ByteArray) (hs:s.size<4294967281) (w0:World) (h:SpSt b w0 s) (hlt:b+2<w0.heap.size) :
 Itr n Tryz.prog 284 #[.pointer (some ⟨b+1,0,none⟩),.pointer (some ⟨b,0,none⟩),.pointer (some ⟨b+2,0,none⟩)] (fun x:Txt=>.string x.1) b (spK b) (fun xs=>txs xs=splitC s.data.toList) (fun pre=>txs pre <+: splitC s.data.toList) (s.size+1) w0:=by
 intro l J Jx W hW sJ sJx hY h0
 have hst:SpSt b W s:=h.keep (fun j hj=>hW.block j (by omega))
 have hNl:=zh6 s.data.toList
 have hsl:s.data.toList.length=s.size:=by simp
 rw [hsl]at hNl
 refine callsIn_of_wp Tryz.func284 rfl trivial ?_ rfl
 simp only [Tryz.ntmps284,List.size_toArray,List.length_cons,List.length_nil,Nat.reduceAdd,Nat.reduceSub,Array.replicate_succ,Array.replicate_zero,List.push_toArray,List.append_toArray,List.nil_append,List.cons_append]
 have c1:=hst.sep
 gi_wp2
 gi_loopw [7,8] (fun i f wr=>∃(pre:List Txt) (r:ByteArray),r.size≤s.size∧Hid (txs pre++splitC r.data.toList=splitC s.data.toList)∧J pre wr∧SpSt b wr r) (fun _ _ wr=>spM b wr)
 case atStart=>exact⟨[],s,zN9 _,hQ9 (by simp [txs]),h0,hst⟩
 case round =>
  obtain⟨pre,r,hr,HP,hJ,hS⟩:=hrel
  obtain⟨mx,hmx⟩:=hS.mx
  have hc:=hS.cell
  have hf:=hS.frz
  have h1:=hS.sep
  have h3:=hS.sav
  have hM:=hQ9 hS.meas
  have cI:=Tryz.strings_Index r ⟨#[44]⟩ mx wr (by omega) hmx
  have CI:=hQ9 cI
  have hlen:pre.length+(splitC r.data.toList).length=(splitC s.data.toList).length:=by
   have:=congrArg List.length HP.out
   simpa [txs]using this
  rcases zfs r.data.toList with ⟨hi,hsp⟩ | ⟨i,hi,hil,hsp⟩
  ·have hidx:Lib.index r.data.toList (⟨#[44]⟩:ByteArray).data.toList=-1:=hi
   rw [hidx]at cI
   have CI2:=hQ9 cI
   have HSP:=hQ9 hsp
   rw [hsp]at hlen
   obtain⟨fn,tmps,assign,body,hy,hR⟩:=hY pre ⟨r,by omega⟩ wr hJ (by simp at hlen;omega)
   clear CI cI hidx hi hsp hlen hmx
   gi_wp2_with (refine⟨trivial,?_⟩;gi_at_call 286;refine(callsIn_wide.2 CI2.out).mono ?_;rintro e w' ⟨rfl,hw⟩;have hw:=hw.symm;subst hw)
   refine hR.mono ?_
   rintro e W3 (⟨rfl,hJ3,hk3⟩ | ⟨rfl,hJx3⟩)
   ·gi_wp2
    go_end0
    exact⟨⟨_,rfl⟩,.inl ⟨_,by rw [kD,←HP.out,HSP.out],hJ3⟩⟩
   ·gi_wp2
    go_end0
    exact⟨⟨_,rfl⟩,.inr ⟨_,by rw [kD,←HP.out,HSP.out];exact List.prefix_refl _,hJx3⟩⟩
  ·have hidx:Lib.index r.data.toList (⟨#[44]⟩:ByteArray).data.toList=(i:Int):=hi
   rw [hidx]at cI
   have CI2:=hQ9 cI
   have HSP:=hQ9 hsp
   rw [hsp]at hlen
   have hrl:r.data.toList.length=r.size:=by simp
   have hir:i<r.size:=by omega
   have hi0:(0:Int)≤(i:Int):=by omega
   have hi1:(i:Int)<(r.size:Int):=by omega
   have hi2:(i:Int)+1≤(r.size:Int):=by omega
   have e1:IntKind.i64.wrap ((i:Int)+1)=((i+1:Nat):Int):=by rw [IntWalk.i64_in _ (by omega)];omega
   have hex:(r.extract 0 i).size<4294967281:=by rw [ByteArray.size_extract];omega
   obtain⟨fn,tmps,assign,body,hy,hR⟩:=hY pre ⟨r.extract 0 i,hex⟩ wr hJ (by simp at hlen;omega)
   have HI:=hQ9 hir
   clear CI cI hidx hi hsp hlen hmx hil hrl
   gi_wp2_with (refine⟨trivial,?_⟩;gi_at_call 286;refine(callsIn_wide.2 CI2.out).mono ?_;rintro e w' ⟨rfl,hw⟩;have hw:=hw.symm;subst hw)
   refine hR.mono ?_
   rintro e W3 (⟨rfl,hJ3,hk3⟩ | ⟨rfl,hJx3⟩)
   ·have hS3:=hS.keep hk3
    have hc3:=hS3.cell
    have hf3:=hS3.frz
    have h13:=hS3.sep
    gi_wp2
    go_roundw
    case rel =>
     have h4:=HI.out
     refine⟨_,r.extract (i+1) r.size,by rw [ByteArray.size_extract];omega,hQ9 ?_,sJ _ _ _ hJ3,hS3.set hb _⟩
     rw [←HP.out,HSP.out,kD,List.append_assoc,zd6,jX]
     rfl
    case measure =>
     have h4:=HI.out
     rw [(hS3.set hb (r.extract (i+1) r.size)).meas,hM.out,ByteArray.size_extract]
     omega
   ·gi_wp2
    refine bodyPost_ret (results_none rfl _ _ _) rfl ?_
    exact⟨⟨_,rfl⟩,.inr ⟨_,by rw [kD,←HP.out,HSP.out,jX];exact⟨splitC (r.data.toList.drop (i+1)),by simp⟩,hJx3⟩⟩
theorem zft (s sep:ByteArray) (w:World) :
 Calls Tryz.prog 204 #[.string s,.string sep] w fun e w'=>e=.returned (.func (.func 284) #[] #[.pointer (some ⟨w.heap.size+1,0,none⟩),.pointer (some ⟨w.heap.size,0,none⟩),.pointer (some ⟨w.heap.size+2,0,none⟩)])∧w'=((w.alloc (.cells #[.string s] 9)).alloc (.cells #[.string sep] 9)).alloc (.cells #[.int .i64 0] 3):=by
 have h:Calls Tryz.prog 248 #[.string s,.string sep,.int .i64 0] w fun e w'=>e=.returned (.func (.func 284) #[] #[.pointer (some ⟨w.heap.size+1,0,none⟩),.pointer (some ⟨w.heap.size,0,none⟩),.pointer (some ⟨w.heap.size+2,0,none⟩)])∧w'=((w.alloc (.cells #[.string s] 9)).alloc (.cells #[.string sep] 9)).alloc (.cells #[.int .i64 0] 3):=by
  go_enter Tryz.func248,Tryz.ntmps248
  go_wp2_with fail
  go_ret
  exact⟨rfl,rfl⟩
 have H:=hQ9 h
 clear h
 go_enter Tryz.func204,Tryz.ntmps204
 go_wp2_with(first | (go_at_call 248;refine(H.out).mono ?_;rintro e w' ⟨rfl,rfl⟩))
 go_ret
 exact⟨rfl,rfl⟩
end Go.Proofs.YtkpnheenacchhaaGreatDoor
