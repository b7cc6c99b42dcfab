/- field.ParseNums. -/
import Derived.Test.YtpppegnojmnicaaGreatDoorTzz
import Derived.Test.YtpppegnojmnicaaGreatDoorTau
import Derived.Test.YtpppegnojmnicaaGreatDoorTat
set_option maxHeartbeats 2000000
set_option maxRecDepth 100000
set_option linter.unusedSimpArgs false
set_option linter.unusedVariables false
namespace Go.Proofs.YtpppegnojmnicaaGreatDoor
open Go.RowKit Go.Shelf
attribute [local go_sem] Oper.semAt_some
def valsT (l:List (List UInt8)):List Int:=l.map fun x=>(pnum x).1
def worstT (l:List (List UInt8)):Int:=if l.any (fun x=>decide ((pnum x).2≠0)) then 4 else 0
theorem kE (l:List (List UInt8)) (x:List UInt8):valsT (l++[x])=valsT l++[(pnum x).1]:=by simp [valsT]
theorem zo1 (l:List (List UInt8)) (x:List UInt8) (h:(pnum x).2=0):worstT (l++[x])=worstT l:=by
 unfold worstT;rw [List.any_append];simp [h]
theorem zmd (l:List (List UInt8)) (x:List UInt8) (h:(pnum x).2=4):worstT (l++[x])=4:=by
 unfold worstT;rw [List.any_append];simp [h]
def noForm (l:List (List UInt8)):Prop:=∀ x∈l,(pnum x).2≠2
theorem zec {s:List UInt8} (h:s≠[]) (x:List UInt8) (hx:x∈splitC s) (h2:(pnum x).2=2):pnums s=([],2):=by
 rw [pnums,if_neg h]
 have:((splitC s).map pnum).any (fun p=>decide (p.2=2))=true:=List.any_eq_true.2 ⟨pnum x,List.mem_map.2 ⟨x,hx,rfl⟩,decide_eq_true h2⟩
 simp only [this,if_true]
theorem zb8 {s:List UInt8} (h:s≠[]) (hn:noForm (splitC s)):pnums s=if worstT (splitC s)=0 then (valsT (splitC s),0) else ([],4):=by
 rw [pnums,if_neg h]
 have h1:((splitC s).map pnum).any (fun p=>decide (p.2=2))=false:=by
  rw [List.any_eq_false]
  intro p hp
  obtain⟨x,hx,rfl⟩:=List.mem_map.1 hp
  simpa using hn x hx
 simp only [h1,Bool.false_eq_true,if_false]
 unfold worstT valsT
 rw [List.any_map]
 by_cases h2:(splitC s).any ((fun p=>decide (p.2≠0))∘pnum)=true
 ·rw [if_pos h2,if_neg]
  have:(splitC s).any (fun x=>decide ((pnum x).2≠0))=true:=h2
  rw [this];simp
 ·have h2:(splitC s).any ((fun p=>decide (p.2≠0))∘pnum)=false:=by simpa using h2
  rw [if_neg (by rw [h2];simp),if_pos]
  ·rw [List.map_map];rfl
  ·have:(splitC s).any (fun x=>decide ((pnum x).2≠0))=false:=h2
   rw [this];simp
theorem yC {S:Nat→Prop} {W W':World} {B:Nat} {t:TypeId} {v:Value} (h:Boxed W B t v) (k:Kp S W W') (hn:¬S B):Boxed W' B t v:=(k.block B h.lt hn).trans h
theorem xk {w:World} {b b':Nat} {e:TypeId} {size n:Nat} {v:Value} {xs:List Value} (h:w.ownsRow b e size v n xs) (hb:b'≤b):w.ownsRow b' e size v n xs:=by
 obtain⟨h1,h2⟩:=h
 refine⟨h1,?_⟩
 rcases h2 with h2 | ⟨g',cap,cur,rfl,h3,h4⟩
 ·exact .inl h2
 ·exact .inr ⟨g',cap,cur,rfl,Nat.le_trans hb h3,h4⟩
theorem zc0 {W w1:World} {N0 L:Nat} {t e:TypeId} {v v':Value} {k m:Nat} {xs ys:List Value} {tmp:Obj} (hL:L<N0) (hv:Boxed W L t v) (hrow:W.ownsRow N0 e 1 v k xs) (hN:N0≤W.heap.size)
 (hown':w1.ownsRow N0 e 1 v' m ys) (hgrow:(W.alloc tmp).grownBy w1 v.ownBlock) :
 Boxed w1 L t v∧Boxed (w1.setCell ⟨L,0,none⟩ v') L t v'∧(w1.setCell ⟨L,0,none⟩ v').ownsRow N0 e 1 v' m ys∧KeepsOthers W (w1.setCell ⟨L,0,none⟩ v')∧Kp (fun j=>j=L∨N0≤j) W (w1.setCell ⟨L,0,none⟩ v'):=by
 have hlt:=zN hrow
 have hv1:Boxed w1 L t v:=(hv.alloc tmp).kept hgrow (fun e=>by have:=(hlt L e.symm).1;omega)
 have hK:Kp (fun j=>j=L∨N0≤j) W w1:=yI (jJ (zU _ W) tmp) hgrow (fun g hg=>.inl (.inr (hlt g hg).1))
 refine⟨hv1,hv1.set v',?_,?_,yi hK (p:=⟨L,0,none⟩) (.inl (.inl rfl)) v'⟩
 ·exact zx hown' (yi (S:=fun j=>j=L) (zU _ w1) (p:=⟨L,0,none⟩) (.inl rfl) v') (fun g hg hj=>by have:=(zN hown' g hg).1;omega)
 ·refine((KeepsOthers.alloc W tmp).trans (KeepsOthers.of_grownBy hgrow fun j o ej hj=>?_)).trans (KeepsOthers.setCell _ _ _)
  rcases(hrow.alloc tmp).2 with ⟨rfl,_⟩ | ⟨g,cap,cur,rfl,_,hgb,_⟩
  ·simp [Value.ownBlock]at ej
  ·obtain rfl:g=j:=by simpa [Value.ownBlock]using ej
   rw [hgb]at hj;cases hj;rfl
theorem jM {B:Nat} {W W':World} (h:Grew W W'):KeepsFrom B W W':=⟨h.size,fun k o _ hk _=>(h.block k (Array.getElem?_eq_some_iff.1 hk).1).trans hk⟩
theorem zf7 {β:Type} (B N:Nat):OwnFrom B (fun(_:β) W=>N≤W.heap.size):=fun _ _ _ _ hs hg _=>Nat.le_trans hs hg.size
def pnW (w:World) (s:ByteArray):World :=
 (((((((w.alloc (Obj.cells #[Value.slice none 0 0] 69)).alloc (Obj.cells #[Value.int IntKind.i64 0] 38)).alloc (Obj.cells #[Value.int IntKind.i64 0] 38)).alloc (Obj.cells #[Value.slice none 0 0] 69)).alloc (Obj.cells #[Value.string s] 9)).alloc (Obj.cells #[Value.string { data:=#[44] }] 9)).alloc (Obj.cells #[Value.int IntKind.i64 0] 3))
theorem zo2 (w:World) (s:ByteArray):(pnW w s).heap.size=w.heap.size+7:=by simp [pnW]
theorem zf8 (w:World) (s:ByteArray):Grew w (pnW w s):=by
 unfold pnW
 exact ze (ze (ze (ze (ze (ze (ze (za w) _) _) _) _) _) _) _
theorem pnW_0 (w:World) (s:ByteArray):Boxed (pnW w s) w.heap.size 69 (.slice none 0 0) :=
 ((((((Boxed.new w _ _).alloc _).alloc _).alloc _).alloc _).alloc _).alloc _
theorem pnW_1 (w:World) (s:ByteArray):Boxed (pnW w s) (w.heap.size+1) 38 (.int .i64 0):=by
 have h:=Boxed.new (w.alloc (Obj.cells #[Value.slice none 0 0] 69)) 38 (.int .i64 0)
 rw [World.size_alloc]at h
 exact((((h.alloc _).alloc _).alloc _).alloc _).alloc _
theorem pnW_2 (w:World) (s:ByteArray):Boxed (pnW w s) (w.heap.size+1+1) 38 (.int .i64 0):=by
 have h:=Boxed.new ((w.alloc (Obj.cells #[Value.slice none 0 0] 69)).alloc (Obj.cells #[Value.int IntKind.i64 0] 38)) 38 (.int .i64 0)
 rw [World.size_alloc,World.size_alloc]at h
 exact(((h.alloc _).alloc _).alloc _).alloc _
theorem pnW_3 (w:World) (s:ByteArray):Boxed (pnW w s) (w.heap.size+1+1+1) 69 (.slice none 0 0):=by
 have h:=Boxed.new (((w.alloc (Obj.cells #[Value.slice none 0 0] 69)).alloc (Obj.cells #[Value.int IntKind.i64 0] 38)).alloc (Obj.cells #[Value.int IntKind.i64 0] 38)) 69 (.slice none 0 0)
 rw [World.size_alloc,World.size_alloc,World.size_alloc]at h
 exact((h.alloc _).alloc _).alloc _
theorem pnW_sp (w:World) (s:ByteArray) (hS:Std w):SpSt (w.heap.size+1+1+1+1) (pnW w s) s:=by
 obtain⟨W3,h3⟩:∃ W3,((((w.alloc (Obj.cells #[Value.slice none 0 0] 69)).alloc (Obj.cells #[Value.int IntKind.i64 0] 38)).alloc (Obj.cells #[Value.int IntKind.i64 0] 38)).alloc (Obj.cells #[Value.slice none 0 0] 69))=W3:=⟨_,rfl⟩
 have hz:W3.heap.size=w.heap.size+1+1+1+1:=by rw [←h3];simp
 have h1:=Boxed.new W3 9 (.string s)
 have h2:=Boxed.new (W3.alloc (Obj.cells #[Value.string s] 9)) 9 (.string ⟨#[44]⟩)
 have h4:=Boxed.new ((W3.alloc (Obj.cells #[Value.string s] 9)).alloc (Obj.cells #[Value.string { data:=#[44] }] 9)) 3 (.int .i64 0)
 simp only [World.size_alloc,hz]at h1 h2 h4
 have hm:=(hS.grew (zf8 w s)).mx
 unfold pnW at hm ⊢
 rw [h3]at hm ⊢
 exact⟨(h1.alloc _).alloc _,(h2.alloc _).cell,h4.cell,hm⟩
theorem zf9 {S:Nat→Prop} {W W':World} {b:Nat} (k:Kp S W W') (hb:b+2<W.heap.size) (hg:5<W.heap.size) (hn:∀ j,j=5∨j=b∨j=b+1∨j=b+2→¬S j):spK b W W' :=
 fun j hj=>k.block j (by rcases hj with rfl | rfl | rfl | rfl<;>omega) (hn j hj)
theorem zc1 (s:ByteArray) (hs:s.size≤1048576) (hp:0<s.size) (w:World) (hS:Std w) (hg8:5<w.heap.size) :
 Calls Tryz.prog 167 #[.string s] w fun e w'=>(∃ v,e=.returned (.tuple #[v,.int .i64 (pnums s.data.toList).2])∧w'.ownsRow w.heap.size 2 1 v (pnums s.data.toList).1.length (i64L (pnums s.data.toList).1))∧Grew w w':=by
 obtain⟨i0,hi,hz0,hz1,hz2⟩:=info_parts (show(Tryz.prog.info? 2).map (fun i=>(i.zero,i.size,i.bytes))=some (some (.int .i64 0),1,8) by kernel_rfl)
 have hie:=kI hp
 have hie2:=kQ hp
 have hne:Hid (s.data.toList≠[]):=hQ9 (fun e=>by have:=yc s;rw [e]at this;simp at this;omega)
 refine(callsIn_wide (n:=9)).1 ?_
 refine callsIn_of_wp_marks Tryz.func167 rfl trivial ?_ rfl
 simp only [Tryz.ntmps167,List.size_toArray,List.length_cons,List.length_nil,Nat.reduceAdd,Nat.reduceSub,Array.replicate_succ,Array.replicate_zero,List.push_toArray,List.append_toArray,List.nil_append,List.cons_append]
 gi_wp2_with (refine⟨trivial,?_⟩;gi_at_call 224;refine(callsIn_wide.2 (zaq _ _ _)).mono ?_;rintro e w' ⟨rfl,rfl⟩)
 change Code.wpIn Fence.wide 9 Tryz.prog _ _ _ (pnW w s)
 clear hie hie2
 have hsz:=zo2 w s
 have hgr:=zf8 w s
 have h0:=pnW_0 w s
 have h1:=pnW_1 w s
 have h2:=pnW_2 w s
 have h3:=pnW_3 w s
 have h4:=pnW_sp w s hS
 generalize pnW w s=W0 at *
 refine qJ (T:=w.heap.size+1+1+1+1) (Kp:=spK (w.heap.size+1+1+1+1)) (S:=fun xs=>txs xs=splitC s.data.toList) (Sp:=fun pre=>txs pre <+: splitC s.data.toList) (N:=s.size+1) (by omega) (gf:=297) (lb:=#[.pointer (some ⟨w.heap.size+1+1+1+1+1,0,none⟩),.pointer (some ⟨w.heap.size+1+1+1+1,0,none⟩),.pointer (some ⟨w.heap.size+1+1+1+1+2,0,none⟩)]) rfl (enters_of Tryz.func297 (by kernel_rfl) rfl)
  (zeb 8 (by omega) (w.heap.size+1+1+1+1) (by omega) s (by omega) W0 h4 (by omega)) (by omega) spK_t (fun W l o' hl j hj=>World.putObj_heap_other (by omega)) rfl
  (fun pre W=>(Boxed W w.heap.size 69 (.slice none 0 0)∧Boxed W (w.heap.size+1) 38 (.int .i64 0)∧Boxed W (w.heap.size+1+1) 38 (.int .i64 (worstT (txs pre)))∧(∃ v,Boxed W (w.heap.size+1+1+1) 69 v∧W.ownsRow W0.heap.size 2 1 v pre.length (i64L (valsT (txs pre)))∧True))∧(noForm (txs pre)∧W0.heap.size≤W.heap.size)∧Below w.heap.size w W)
  (fun pre W=>(Boxed W w.heap.size 69 (.slice none 0 0)∧Boxed W (w.heap.size+1) 38 (.int .i64 2))∧(∃ x∈txs pre,(pnum x).2=2)∧Below w.heap.size w W)
  (OwnFrom.and (OwnFrom.and (Own.from (boxed_own _ _ _) _) (OwnFrom.and (Own.from (boxed_own _ _ _) _) (OwnFrom.and (Own.from (boxed_own _ _ _) _) (Own.from (holdsRow_own _ _ _ _ _ (fun pre:List Txt=>pre.length) (fun pre=>i64L (valsT (txs pre))) (fun _ _=>True)) _)))) (OwnFrom.and (OwnFrom.and (ownFrom_pure _ _) (zf7 _ _)) (ownFrom_below (Nat.le_refl _) (by omega))))
  (OwnFrom.and (OwnFrom.and (Own.from (boxed_own _ _ _) _) (Own.from (boxed_own _ _ _) _)) (OwnFrom.and (ownFrom_pure _ _) (ownFrom_below (Nat.le_refl _) (by omega))))
  ?sI ?sIx ?start (fun x=>{ tmps:=#[.string s,undef,.pointer (some ⟨w.heap.size,0,none⟩),.pointer (some ⟨w.heap.size+1,0,none⟩),.pointer (some ⟨w.heap.size+1+1,0,none⟩),.pointer (some ⟨w.heap.size+1+1+1,0,none⟩),.string x.1,undef,undef,.string s,.bool false,.string s,.func (.func 297) #[] #[.pointer (some ⟨w.heap.size+1+1+1+1+1,0,none⟩),.pointer (some ⟨w.heap.size+1+1+1+1,0,none⟩),.pointer (some ⟨w.heap.size+1+1+1+1+2,0,none⟩)],.string x.1,undef,undef,undef,undef,undef,undef,undef,undef,undef,undef,undef,undef,undef,undef,undef,undef,undef,undef,undef],defers:=[] }) ?assign ?body ?done ?stop
 case sI =>
  rintro pre A u ⟨⟨a0,a1,a2,v,a3,a4,_⟩,⟨a5,a6⟩,a7⟩
  exact⟨⟨a0.other (by omega) u,a1.other (by omega) u,a2.other (by omega) u,v,a3.other (by omega) u,zx a4 (yi (S:=fun j=>j=w.heap.size+1+1+1+1) (zU _ A) (p:=⟨w.heap.size+1+1+1+1,0,none⟩) (.inl rfl) u) (fun g hg hj=>by have:=(zN a4 g hg).1;omega),trivial⟩,⟨a5,by simpa [World.setCell]using a6⟩,a7.setCell (p:=⟨w.heap.size+1+1+1+1,0,none⟩) (by simp only;omega) u⟩
 case sIx =>
  rintro pre A u ⟨⟨a0,a1⟩,a5,a7⟩
  exact⟨⟨a0.other (by omega) u,a1.other (by omega) u⟩,a5,a7.setCell (p:=⟨w.heap.size+1+1+1+1,0,none⟩) (by simp only;omega) u⟩
 case start =>
  exact⟨⟨h0,h1,h2,_,h3,World.ownsRow_nil _ _ _ _,trivial⟩,⟨fun x hx=>absurd hx (by simp [txs]),Nat.le_refl _⟩,hgr⟩
 case assign =>
  intro l x W K hK
  gi_wp2
  exact hK
 case body =>
  rintro l pre x W ⟨⟨a0,a1,a2,v,a3,a4,_⟩,⟨a5,a6⟩,a7⟩ hlen
  have cP:=ke x.1 (by have:=x.2;omega) W (hS.below a7 (Nat.le_refl _))
  have hN:Hid (txs (pre++[x])=txs pre++[x.1.data.toList]):=hQ9 (x7 pre x)
  have h12:1≤9-1-1:=by omega
  have hWb:w.heap.size+1+1+1+1+2<W.heap.size:=by omega
  have hWg:5<W.heap.size:=by omega
  have step:∀ w3,Grew W w3→Boxed w3 w.heap.size 69 (.slice none 0 0)∧Boxed w3 (w.heap.size+1) 38 (.int .i64 0)∧Boxed w3 (w.heap.size+1+1) 38 (.int .i64 (worstT (txs pre)))∧Boxed w3 (w.heap.size+1+1+1) 69 v∧w3.ownsRow W0.heap.size 2 1 v pre.length (i64L (valsT (txs pre))):=fun w3 hg =>
   ⟨yC a0 (zJ (S:=fun _=>False) hg) (fun h=>h),yC a1 (zJ (S:=fun _=>False) hg) (fun h=>h),yC a2 (zJ (S:=fun _=>False) hg) (fun h=>h),yC a3 (zJ (S:=fun _=>False) hg) (fun h=>h),zx (S:=fun _=>False) a4 (zJ hg) (fun _ _ h=>h)⟩
  rcases ze8 x.1.data.toList with he | he | he
  ·rw [he]at cP
   have HV:Hid (valsT (txs (pre++[x]))=valsT (txs pre)++[(pnum x.1.data.toList).1]):=hQ9 (by rw [hN.out,kE])
   have HW:Hid (worstT (txs (pre++[x]))=worstT (txs pre)):=hQ9 (by rw [hN.out,zo1 _ _ he])
   have HF:Hid (noForm (txs (pre++[x]))):=hQ9 (by
    rw [hN.out]
    intro y hy
    rcases List.mem_append.1 hy with hy | hy
    ·exact a5 y hy
    ·obtain rfl:y=x.1.data.toList:=by simpa using hy
     rw [he];decide)
   have CP:=hQ9 cP
   clear cP he
   generalize (pnum x.1.data.toList).1=z at *
   gi_wp2_with (first
    | (refine⟨trivial,?_⟩;gi_at_call 143;refine(CallsIn.inRound l (callsIn_wide.2 CP.out)).mono ?_;rintro e w3 ⟨rfl,hg3⟩;obtain⟨b0,b1,b2,b3,b4⟩:=step w3 hg3;have hc3:=b3.cell;have hf3:=b3.frozen;have hz3:=hg3.size)
    | (gi_at_builtin;refine wpListIn_append_own _ rfl _ _ 69 rfl W0.heap.size 2 i0 (.int .i64 0) 1 8 Tryz.underlying69 hi hz0 hz1 hz2 rfl (by decide) _ _ _ rfl (b4.alloc _) ⟨w3.heap.size,0,none⟩ 1 1 [.int .i64 z] rfl rfl (cell_one_new _ _ _) (by simp [Value.oneCell']) (by unfold maxLen;omega) (by omega) (by simp;omega) ?_;intro v' w4 hown' hgrow _;obtain⟨g',cap',rfl⟩:=ownsRow_succ hown';obtain⟨d1,d2,d3,d4,d5⟩:=zc0 (by omega) b3 b4 (by omega) hown' hgrow;have hc4:=d1.cell;have hf4:=d1.frozen))
   have hkk:=xh (zJ hg3) d5
   exact⟨(jM hg3).trans (d4.from _),zf9 hkk hWb hWg (fun j hj hh=>by omega),⟨⟨yC b0 d5 (by omega),yC b1 d5 (by omega),by rw [HW.out];exact yC b2 d5 (by omega),_,d2,by rw [HV.out,List.length_append];simpa [i64L]using d3,trivial⟩,⟨HF.out,by have:=hkk.size;omega⟩,yj a7 hkk (by omega) (fun i hi=>by omega)⟩⟩
  ·rw [he]at cP
   have CP:=hQ9 cP
   clear cP
   generalize (pnum x.1.data.toList).1=z at *
   gi_wp2_with (first
    | (refine⟨trivial,?_⟩;gi_at_call 143;refine(CallsIn.inRound l (callsIn_wide.2 CP.out)).mono ?_;rintro e w3 ⟨rfl,hg3⟩;obtain⟨b0,b1,b2,b3,b4⟩:=step w3 hg3;have hc0:=b0.cell;have hf0:=b0.frozen;have hc1:=b1.cell;have hf1:=b1.frozen;have hz3:=hg3.size))
   have hK3:Kp (fun j=>j=w.heap.size∨j=w.heap.size+1) W ((w3.setCell ⟨w.heap.size,0,none⟩ (.slice none 0 0)).setCell ⟨w.heap.size+1,0,none⟩ (.int .i64 2)):=yi (S:=fun j=>j=w.heap.size∨j=w.heap.size+1) (yi (S:=fun j=>j=w.heap.size∨j=w.heap.size+1) (zJ hg3) (p:=⟨w.heap.size,0,none⟩) (.inl (.inl rfl)) _) (p:=⟨w.heap.size+1,0,none⟩) (.inl (.inr rfl)) _
   exact⟨(jM hg3).trans (((KeepsOthers.setCell _ _ _).trans (KeepsOthers.setCell _ _ _)).from _),rfl,⟨(b0.set _).other (by omega) _,(b1.other (by omega) _).set _⟩,⟨x.1.data.toList,by rw [hN.out];simp,he⟩,yj a7 hK3 (by omega) (fun i hi=>by omega)⟩
  ·rw [he]at cP
   have HV:Hid (valsT (txs (pre++[x]))=valsT (txs pre)++[(pnum x.1.data.toList).1]):=hQ9 (by rw [hN.out,kE])
   have HW:Hid (worstT (txs (pre++[x]))=4):=hQ9 (by rw [hN.out,zmd _ _ he])
   have HF:Hid (noForm (txs (pre++[x]))):=hQ9 (by
    rw [hN.out]
    intro y hy
    rcases List.mem_append.1 hy with hy | hy
    ·exact a5 y hy
    ·obtain rfl:y=x.1.data.toList:=by simpa using hy
     rw [he];decide)
   have CP:=hQ9 cP
   clear cP he
   generalize (pnum x.1.data.toList).1=z at *
   gi_wp2_with (first
    | (refine⟨trivial,?_⟩;gi_at_call 143;refine(CallsIn.inRound l (callsIn_wide.2 CP.out)).mono ?_;rintro e w3 ⟨rfl,hg3⟩;obtain⟨b0,b1,b2,b3,b4⟩:=step w3 hg3;have hc3:=b3.cell;have hf3:=b3.frozen;have hc2:=b2.cell;have hf2:=b2.frozen;have hz3:=hg3.size;have b3':=b3.other (B':=w.heap.size+1+1) (by omega) (.int .i64 4);have hc5:=b3'.cell)
    | (gi_at_builtin;have hb4':=zx b4 (yi (S:=fun j=>j=w.heap.size+1+1) (zU _ w3) (p:=⟨w.heap.size+1+1,0,none⟩) (.inl rfl) (.int .i64 4)) (fun g hg hj=>by have:=(zN b4 g hg).1;omega);refine wpListIn_append_own _ rfl _ _ 69 rfl W0.heap.size 2 i0 (.int .i64 0) 1 8 Tryz.underlying69 hi hz0 hz1 hz2 rfl (by decide) _ _ _ rfl (hb4'.alloc _) ⟨w3.heap.size,0,none⟩ 1 1 [.int .i64 z] rfl rfl (by simpa using cell_one_new (w3.setCell ⟨w.heap.size+1+1,0,none⟩ (.int .i64 4)) (.int .i64 z) 2) (by simp [Value.oneCell']) (by unfold maxLen;omega) (by omega) (by simp;omega) ?_;intro v' w4 hown' hgrow _;obtain⟨g',cap',rfl⟩:=ownsRow_succ hown';obtain⟨d1,d2,d3,d4,d5⟩:=zc0 (by omega) b3' hb4' (by simp;omega) hown' hgrow;have hc4:=d1.cell;have hf4:=d1.frozen))
   have hS2:Kp (fun j=>j=w.heap.size+1+1∨j=w.heap.size+1+1+1∨W0.heap.size≤j) W (w3.setCell ⟨w.heap.size+1+1,0,none⟩ (.int .i64 4)):=yi (zJ hg3) (p:=⟨w.heap.size+1+1,0,none⟩) (.inl (.inl rfl)) _
   have hkk:=xh hS2 (zqx d5 (fun i hi=>by omega))
   exact⟨((jM hg3).trans ((KeepsOthers.setCell _ _ _).from _)).trans (d4.from _),zf9 hkk hWb hWg (fun j hj hh=>by omega),⟨⟨yC (b0.other (by omega) _) d5 (by omega),yC (b1.other (by omega) _) d5 (by omega),by rw [HW.out];exact yC (b2.set _) d5 (by omega),_,d2,by rw [HV.out,List.length_append];simpa [i64L]using d3,trivial⟩,⟨HF.out,by have:=hkk.size;omega⟩,yj a7 hkk (by omega) (fun i hi=>by omega)⟩⟩
 case done =>
  rintro D ys W hD hS2 ⟨⟨a0,a1,a2,v,a3,a4,_⟩,⟨a5,a6⟩,a7⟩ hK
  rw [hS2]at a2 a4 a5
  have hpn:=zb8 hne.out a5
  have hyl:ys.length=(valsT (splitC s.data.toList)).length:=by
   have:=congrArg List.length hS2
   simpa [txs,valsT]using this
  rw [hyl]at a4
  have hc3:=a3.cell
  have hf3:=a3.frozen
  have hc2:=a2.cell
  have hc1:=a1.cell
  have hf1:=a1.frozen
  have hc0:=a0.cell
  have hf0:=a0.frozen
  by_cases hw:worstT (splitC s.data.toList)=0
  ·rw [if_pos hw]at hpn
   rw [hw]at hc2
   have HPN:=hQ9 hpn
   clear hpn hw a2 hS2
   obtain⟨Av,cv,rfl,_,_,_⟩:=zv a4
   gi_wp2
   have hK':=((KeepsOthers.setCell W ⟨w.heap.size,0,none⟩ (.slice Av (valsT (splitC s.data.toList)).length cv)).trans (KeepsOthers.setCell _ ⟨w.heap.size+1,0,none⟩ (.int .i64 0))).same D _ hK rfl
   have e0:=((a0.set (.slice Av (valsT (splitC s.data.toList)).length cv)).other (B':=w.heap.size+1) (by omega) (.int .i64 0)).kept (grownBy_putObj' _ D (.deferred none)) (fun e=>by injection e with e;omega)
   have e1:=((a1.other (B':=w.heap.size) (by omega) (.slice Av (valsT (splitC s.data.toList)).length cv)).set (.int .i64 0)).kept (grownBy_putObj' _ D (.deferred none)) (fun e=>by injection e with e;omega)
   have hKp:Kp (fun j=>j=w.heap.size∨j=w.heap.size+1) W ((W.setCell ⟨w.heap.size,0,none⟩ (.slice Av (valsT (splitC s.data.toList)).length cv)).setCell ⟨w.heap.size+1,0,none⟩ (.int .i64 0)):=yi (S:=fun j=>j=w.heap.size∨j=w.heap.size+1) (yi (S:=fun j=>j=w.heap.size∨j=w.heap.size+1) (zU _ W) (p:=⟨w.heap.size,0,none⟩) (.inl (.inl rfl)) _) (p:=⟨w.heap.size+1,0,none⟩) (.inl (.inr rfl)) _
   have hrow:=ownsRow_putObj (zx a4 hKp (fun g hg hj=>by have:=(zN a4 g hg).1;omega)) (.deferred none) hK' rfl
   have hbl:=yj a7 hKp (by omega) (fun i hi=>by omega)
   refine⟨by simp,.inl ⟨_,_,rfl,run_takeDeferred hK',?_⟩⟩
   have hce0:=e0.cell
   have hce1:=e1.cell
   refine⟨.tuple #[.slice Av (valsT (splitC s.data.toList)).length cv,.int .i64 0],?_,⟨_,by rw [HPN.out],by rw [HPN.out];exact xk hrow (by omega)⟩,hbl.trans (belowK_b (w:=w) (Nat.le_refl _) _ D _ _ (by omega) hK' rfl rfl)⟩
   simp [results,Tryz.f167,go_sem,hce0,hce1]
  ·rw [if_neg hw]at hpn
   obtain⟨wv,hwv⟩:∃ wv,worstT (splitC s.data.toList)=wv:=⟨_,rfl⟩
   have hw4:wv=4:=by
    rw [←hwv]
    unfold worstT at hw ⊢
    split
    ·rfl
    ·rename_i h;rw [if_neg h]at hw;exact absurd rfl hw
   subst hw4
   rw [hwv]at hc2
   have HPN:=hQ9 hpn
   clear hpn hw a2 hS2 hwv
   gi_wp2
   gi_region
   gi_wp2
   have hK':=(((KeepsOthers.setCell W ⟨w.heap.size,0,none⟩ (.slice none 0 0)).trans (KeepsOthers.setCell _ ⟨w.heap.size+1,0,none⟩ (.int .i64 4))).trans (KeepsOthers.drew _)).same D _ hK rfl
   have g0:Boxed ((W.setCell ⟨w.heap.size,0,none⟩ (.slice none 0 0)).setCell ⟨w.heap.size+1,0,none⟩ (.int .i64 4)).drew w.heap.size 69 (.slice none 0 0):=(a0.set (.slice none 0 0)).other (B':=w.heap.size+1) (by omega) (.int .i64 4)
   have g1:Boxed ((W.setCell ⟨w.heap.size,0,none⟩ (.slice none 0 0)).setCell ⟨w.heap.size+1,0,none⟩ (.int .i64 4)).drew (w.heap.size+1) 38 (.int .i64 4):=(a1.other (B':=w.heap.size) (by omega) (.slice none 0 0)).set (.int .i64 4)
   have e0:=g0.kept (grownBy_putObj' _ D (.deferred none)) (fun e=>by injection e with e;omega)
   have e1:=g1.kept (grownBy_putObj' _ D (.deferred none)) (fun e=>by injection e with e;omega)
   have hKp:Kp (fun j=>j=w.heap.size∨j=w.heap.size+1) W ((W.setCell ⟨w.heap.size,0,none⟩ (.slice none 0 0)).setCell ⟨w.heap.size+1,0,none⟩ (.int .i64 4)).drew:=jv (yi (S:=fun j=>j=w.heap.size∨j=w.heap.size+1) (yi (S:=fun j=>j=w.heap.size∨j=w.heap.size+1) (zU _ W) (p:=⟨w.heap.size,0,none⟩) (.inl (.inl rfl)) _) (p:=⟨w.heap.size+1,0,none⟩) (.inl (.inr rfl)) _)
   have hbl:=yj a7 hKp (by omega) (fun i hi=>by omega)
   refine⟨by simp,.inl ⟨_,_,rfl,run_takeDeferred hK',?_⟩⟩
   have hce0:=e0.cell
   have hce1:=e1.cell
   refine⟨.tuple #[.slice none 0 0,.int .i64 4],?_,⟨_,by rw [HPN.out],by rw [HPN.out];exact World.ownsRow_nil _ _ _ _⟩,hbl.trans (belowK_b (w:=w) (Nat.le_refl _) _ D _ _ (by omega) hK' rfl rfl)⟩
   simp [results,Tryz.f167,go_sem,hce0,hce1]
 case stop =>
  rintro D pre W hD hpre ⟨⟨a0,a1⟩,⟨x,hx,h2⟩,a7⟩ hK
  have hpn:=zec hne.out x (hpre.subset hx) h2
  have HPN:=hQ9 hpn
  clear hpn
  gi_wp2
  refine⟨by simp,.inl ⟨_,_,rfl,run_takeDeferred hK,?_⟩⟩
  have e0:=a0.kept (grownBy_putObj' _ D (.deferred none)) (fun e=>by injection e with e;omega)
  have e1:=a1.kept (grownBy_putObj' _ D (.deferred none)) (fun e=>by injection e with e;omega)
  have hce0:=e0.cell
  have hce1:=e1.cell
  refine⟨.tuple #[.slice none 0 0,.int .i64 2],?_,⟨_,by rw [HPN.out],by rw [HPN.out];exact World.ownsRow_nil _ _ _ _⟩,a7.trans (belowK_b (w:=w) (Nat.le_refl _) _ D _ _ (by omega) hK rfl rfl)⟩
  simp [results,Tryz.f167,go_sem,hce0,hce1]
theorem kT (s:ByteArray) (hs:s.size≤1048576) (w:World) (hS:Std w) (hg8:5<w.heap.size) :
 Calls Tryz.prog 167 #[.string s] w fun e w'=>(∃ v,e=.returned (.tuple #[v,.int .i64 (pnums s.data.toList).2])∧w'.ownsRow w.heap.size 2 1 v (pnums s.data.toList).1.length (i64L (pnums s.data.toList).1))∧Grew w w':=by
 by_cases hz:s.size=0
 ·obtain rfl:=xi hz
  go_enter Tryz.func167,Tryz.ntmps167
  go_wp2_with fail
  have e0:Boxed ((w.alloc (Obj.cells #[Value.slice none 0 0] 69)).alloc (Obj.cells #[Value.int IntKind.i64 0] 38)) w.heap.size 69 (.slice none 0 0):=(Boxed.new w _ _).alloc _
  have e1:=Boxed.new (w.alloc (Obj.cells #[Value.slice none 0 0] 69)) 38 (.int .i64 0)
  rw [World.size_alloc]at e1
  have hc0:=e0.cell
  have hc1:=e1.cell
  exact bodyPost_ret (v:=.tuple #[.slice none 0 0,.int .i64 0]) (by simp [results,Tryz.f167,go_sem,hc0,hc1]) rfl ⟨⟨_,rfl,World.ownsRow_nil _ _ _ _⟩,ze (ze (za w) _) _⟩
 ·exact zc1 s hs (by omega) w hS hg8
end Go.Proofs.YtpppegnojmnicaaGreatDoor
namespace Go.Proofs.YtpppegnojmnicaaGreatDoor
open Go.RowKit
theorem zho (x:List UInt8) (l:List (List UInt8)):Lib.join (x::l) [44]=x++(l.map fun y=>44::y).flatten:=by
 rw [Lib.join_cons]
 congr 1
theorem x8 (x:List UInt8) (l:List (List UInt8)):joinC (x::l)=x++(l.map fun y=>44::y).flatten:=by
 induction l generalizing x with
 | nil=>simp [joinC]
 | cons y l ih=>rw [joinC,ih];simp
theorem jN (l:List (List UInt8)):Lib.join l [44]=joinC l:=by
 cases l with
 | nil=>rfl
 | cons x l=>rw [zho,x8]
theorem zed (l:List (List UInt8)) (b:Nat) (h:∀ x∈l,x.length≤b):(joinC l).length≤l.length*(b+1):=by
 cases l with
 | nil=>simp [joinC]
 | cons x l =>
  rw [x8]
  have hx:=h x List.mem_cons_self
  have h2:((l.map fun y=>44::y).flatten).length≤l.length*(b+1):=by
   have h3:∀ y∈l,y.length≤b:=fun y hy=>h y (List.mem_cons_of_mem _ hy)
   clear h
   induction l with
   | nil=>simp
   | cons y l ih =>
    have:=h3 y List.mem_cons_self
    have:=ih (fun z hz=>h3 z (List.mem_cons_of_mem _ hz))
    simp only [List.map_cons,List.flatten_cons,List.length_append,List.length_cons,Nat.succ_mul]at this ⊢
    omega
  rw [List.length_append,List.length_cons,Nat.succ_mul]
  omega
theorem za7 (l:List Int) (h:∀ x∈l,in64 x):(nums l).length≤l.length*21:=by
 have:=zed (l.map Lib.itoa) 20 (fun x hx=>by
  obtain⟨n,hn,rfl⟩:=List.mem_map.1 hx
  exact yl (h n hn).1 (h n hn).2)
 simpa [nums]using this
theorem yN {w:World} {base:Nat} {e:TypeId} {n:Nat} {v:Value} {xs:List Value} (h:w.ownsRow base e 1 v n xs) (hn:0<n) :
 ∃ g c,v=.slice (some ⟨g,0,none⟩) n c∧n≤c∧g<w.heap.size∧∀(j:Nat) x,xs[j]?=some x→w.cell? ⟨g,0+j,none⟩=some x:=by
 obtain⟨hl,h2⟩:=h
 rcases h2 with ⟨rfl,rfl⟩ | ⟨g,cap,cur,rfl,hb,hh,hc,hm,hs,ht⟩
 ·simp at hl;omega
 ·refine⟨g,cap,rfl,hc,(Array.getElem?_eq_some_iff.1 hh).1,?_⟩
  intro j x hx
  obtain⟨hj,rfl⟩:=List.getElem?_eq_some_iff.1 hx
  have hkc:j<cur.size:=by omega
  have:cur[j]?=some xs[j]:=by
   rw [Array.getElem?_eq_getElem hkc]
   simp only [←ht,List.getElem_take,Array.getElem_toList]
  simp [World.cell?,hh,this]
theorem zq9 (A:Option Addr) (c:Nat) (l:List Int) (hl:l.length≤1048576) (hp:∀ x∈l,in64 x) (w:World) (hs:Std w) (hr:Rd w w.heap.size A (i64L l)) :
 Calls Tryz.prog 169 #[.slice A l.length c] w fun e w'=>e=.returned (.string ⟨(nums l).toArray⟩)∧Grew w w':=by
 have CM:=hQ9 (zmc A c l hl hp w hs hr)
 have hnl:=za7 l hp
 have hbl:(Lib.join ((l.map numS).map (·.data.toList)) (⟨#[44]⟩:ByteArray).data.toList).length≤140737488355328:=by
  have:(l.map numS).map (·.data.toList)=l.map Lib.itoa:=by rw [List.map_map];apply List.map_congr_left;intro x _;simp [numS]
  rw [this,show(⟨#[44]⟩:ByteArray).data.toList=[44] from rfl,jN]
  show(nums l).length≤_
  omega
 have hbe:Hid (Lib.join ((l.map numS).map (·.data.toList)) (⟨#[44]⟩:ByteArray).data.toList=nums l):=hQ9 (by
  have:(l.map numS).map (·.data.toList)=l.map Lib.itoa:=by rw [List.map_map];apply List.map_congr_left;intro x _;simp [numS]
  rw [this,show(⟨#[44]⟩:ByteArray).data.toList=[44] from rfl,jN];rfl)
 by_cases hz:l.length=0
 ·obtain rfl:l=[]:=List.length_eq_zero_iff.1 hz
  go_enter Tryz.func169,Tryz.ntmps169
  go_wp2_with(first
   | (go_at_call 226;refine(CM.out).mono ?_;rintro e w1 ⟨v,rfl,hrow,hg⟩;obtain⟨A1,c1,rfl,_,_,_⟩:=zv hrow)
   | (go_at_call 225;refine(Tryz.strings_Join_none A1 c1 _ _).mono ?_;rintro e w' ⟨rfl,hw⟩;have hw:=hw.symm;subst hw))
  go_ret
  exact⟨rfl,hg⟩
 ·go_enter Tryz.func169,Tryz.ntmps169
  go_wp2_with(first
   | (go_at_call 226;refine(CM.out).mono ?_;rintro e w1 ⟨v,rfl,hrow,hg⟩;obtain⟨g,c1,rfl,hcap,hgs,hcs⟩:=yN hrow (by omega))
   | (go_at_call 225;have cJ:=Tryz.strings_Join g 0 c1 (l.map numS) ⟨#[44]⟩ w1 (fun j x hx=>hcs j (.string x) (by rw [List.getElem?_map,hx];rfl)) hgs (by rw [List.length_map];omega) (by rw [List.length_map];exact hcap) hbl;rw [List.length_map,hbe.out]at cJ;refine cJ.mono ?_;rintro e w2 ⟨rfl,hg2⟩))
  go_ret
  exact⟨rfl,zc hg hg2⟩
end Go.Proofs.YtpppegnojmnicaaGreatDoor
