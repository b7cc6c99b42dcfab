/- field.Num, field.ParseNum. -/
import Derived.Test.YtkpnheenacchhaaGreatDoorJzz
import Derived.Test.YtkpnheenacchhaaGreatDoorJat
import Derived.Test.YtkpnheenacchhaaGreatDoorJbf
import Derived.WalkKit
import Derived.Test.YtkpnheenacchhaaGreatDoorProg
import Derived.Test.YtkpnheenacchhaaGreatDoorJad
import Derived.Laws.MakeOwn
set_option maxHeartbeats 1000000
set_option maxRecDepth 100000
set_option linter.unusedSimpArgs false
set_option linter.unusedVariables false
namespace Go.Proofs.YtkpnheenacchhaaGreatDoor
open Go.RowKit
def txtV (l:List UInt8):Value:=.string ⟨l.toArray⟩
theorem yp (n:Int) (h0:-9223372036854775808≤n) (h1:n≤9223372036854775807) (w:World) (hs:Std w) :
 Calls Tryz.prog 86 #[.int .i64 n] w fun e w'=>e=.returned (.string ⟨(Lib.itoa n).toArray⟩)∧Grew w w':=by
 have CF:=hQ9 (Tryz.strconv_FormatInt_10 n h0 h1 w hs.tab)
 clear hs
 go_enter Tryz.func86,Tryz.ntmps86
 go_wp2_with(first | (go_at_call 155;refine(CF.out).mono ?_;rintro e w' ⟨rfl,k,os,hw⟩))
 go_ret
 exact⟨rfl,Lib.below_grow _ _ (Nat.le_refl _) _ _⟩
def in64 (n:Int):Prop:=-9223372036854775808≤n∧n≤9223372036854775807
def numS (n:Int):ByteArray:=⟨(Lib.itoa n).toArray⟩
theorem num_at (n:Int) (h:in64 n) (w:World) (hs:Std w):Calls Tryz.prog 86 #[.int .i64 n] w fun e w'=>e=.returned (.string (numS n))∧Grew w w':=yp n h.1 h.2 w hs
structure Cm where
 cl:Int
 no:Int
 fr:Int
 tt:Int
 am:Int
 deriving DecidableEq
def Cm.l (c:Cm):List Int:=[c.cl,c.no,c.fr,c.tt,c.am]
def Cm.in (c:Cm):Prop:=∀ x∈c.l,in64 x
def Cm.v (c:Cm):Value:=.agg #[.int .i64 c.cl,.int .i64 c.no,.int .i64 c.fr,.int .i64 c.tt,.int .i64 c.am]
def Cm.zero:Cm:=⟨0,0,0,0,0⟩
def okC (c:Cm):Prop:=0≤c.cl∧c.cl<16∧0≤c.no∧c.no≤1048576∧0≤c.fr∧c.fr<16∧0≤c.tt∧c.tt<16∧c.fr≠c.tt∧1≤c.am∧c.am≤1099511627776
instance (c:Cm):Decidable (okC c):=by unfold okC;infer_instance
def txC (c:Cm):List UInt8:=nums c.l
def smallC (n:Int):Prop:=-2147483648≤n∧n<2147483648
instance (n:Int):Decidable (smallC n):=by unfold smallC;infer_instance
theorem kN (n:Int) (h:in64 n) (w:World) (hs:Std w):Calls Tryz.prog 270 #[.int .i64 n] w fun e w'=>e=.returned (.int .i64 (id n))∧Grew w w':=by
 clear hs
 go_enter Tryz.func270,Tryz.ntmps270
 go_wp2_with fail
 go_ret
 exact⟨rfl,za w⟩
theorem kk (A:Option Addr) (c:Nat) (l:List Int) (hl:l.length≤1048576) (hp:∀ x∈l,in64 x) (w:World) (hs:Std w) (hr:Rd w w.heap.size A (i64L l)) :
 Calls Tryz.prog 269 #[.slice A l.length c,.func (.func 270) #[] #[]] w fun e w'=>∃ v,e=.returned v∧w'.ownsRow w.heap.size 2 1 v l.length ((l.map id).map (Value.int .i64))∧Grew w w':=by
 obtain⟨i0,hi,hz0,hz1,hz2⟩:=info_parts (show(Tryz.prog.info? 2).map (fun i=>(i.zero,i.size,i.bytes))=some (some (.int .i64 0),1,8) by kernel_rfl)
 have HPP:=hQ9 hp
 clear hp
 obtain⟨w1,hmk,hown1,hgrow1⟩:=run_make_own (P:=Tryz.prog) w w.heap.size 234 2 i0 (.int .i64 0) 1 Tryz.underlying234 hi hz0 hz1 .i64 .i64 l.length (by rw [hz2];omega) (by unfold maxLen;omega) (Nat.le_refl _)
 have hg1:Grew w w1:=(Below.refl _ w).grown hgrow1 (Nat.le_refl _) (fun j hj=>by cases hj)
 clear hgrow1
 go_enter Tryz.func269,Tryz.ntmps269
 go_wp2_with fail
 clear hmk
 go_loopw [5,7,13] (fun rv xv iv wr=>∃ k:Nat,k≤l.length∧iv=.int .i64 k∧wr.ownsRow w.heap.size 2 1 rv k (((l.take k).map id).map (Value.int .i64))∧Grew w wr) (fun _ _ iv _=>l.length-(intOf iv).toNat)
 case atStart=>exact⟨0,Nat.zero_le _,rfl,by simpa using hown1,hg1⟩
 case round =>
  obtain⟨k,hk,rfl,hown,hg⟩:=hrel
  by_cases hlt:k<l.length
  ·obtain⟨ad,rfl,hbl,hc0⟩:=yM (hr.below hg) k hlt
   have hk0:(0:Int)≤(k:Int):=by omega
   have hk1:(k:Int)<(l.length:Int):=by omega
   have e1:IntKind.i64.wrap ((k:Int)+1)=((k+1:Nat):Int):=by rw [IntWalk.i64_in _ (by omega)];omega
   have HK:=hQ9 hlt
   have HT:Hid (((l.take (k+1)).map id).map (Value.int .i64)=((l.take k).map id).map (Value.int .i64)++[(Value.int .i64) (id l[k])]):=hQ9 (by rw [List.take_succ_eq_append_getElem hlt,List.map_append,List.map_append];rfl)
   have hpx:=HPP.out l[k] (List.getElem_mem hlt)
   have cC:=kN l[k] hpx wr (hs.grew hg)
   generalize l[k]=x at *
   have CC:=hQ9 cC
   have HPX:=hQ9 hpx
   clear cC hpx
   go_wp2_with(first
    | (go_at_call 270;refine(CC.out).mono ?_;rintro e w3 ⟨rfl,hg3⟩;have hown3:=zj (S:=fun _=>False) hown (zi hg3) (fun g _ h=>h);have hgg:=zb hg hg3;have hz3:=hgg.size)
    | (at_builtin;refine zd rfl (.tmp 17) (.tmp 21) 234 rfl w.heap.size 2 i0 (.int .i64 0) 8 Tryz.underlying234 hi hz0 hz1 hz2 rfl _ k _ rfl (hown3.alloc _) (w3.heap.size+1) (some ⟨w3.heap.size,0,none⟩) 1 1 [(Value.int .i64) (id x)] rfl rfl (zz w3 2 #[(Value.int .i64) (id x)] (0,0)) (zJ rfl) (by unfold maxLen;omega) (by omega) (by simp;omega) ?_;intro v6 w6 hown6 hgrow6 _;have hg6:=zE hgg hgrow6 (zr hown3)))
   go_roundw
   case rel=>exact⟨k+1,by have:=HK.out;omega,by go_num,by rw [HT.out];exact hown6,hg6⟩
   case measure=>have h9:=HK.out;simp [intOf];omega
  ·obtain rfl:k=l.length:=by omega
   rw [List.take_length]at hown
   go_wp2_with fail
   go_ret
   exact⟨_,rfl,hown,hg⟩
theorem kO (A:Option Addr) (c:Nat) (l:List Int) (hl:l.length≤1048576) (hp:∀ x∈l,in64 x) (w:World) (hs:Std w) (hr:Rd w w.heap.size A (i64L l)) :
 Calls Tryz.prog 268 #[.slice A l.length c,.func (.func 86) #[] #[]] w fun e w'=>∃ v,e=.returned v∧w'.ownsRow w.heap.size 9 1 v l.length ((l.map numS).map Value.string)∧Grew w w':=by
 obtain⟨i0,hi,hz0,hz1,hz2⟩:=info_parts (show(Tryz.prog.info? 9).map (fun i=>(i.zero,i.size,i.bytes))=some (some (.string ⟨#[]⟩),1,16) by kernel_rfl)
 have HPP:=hQ9 hp
 clear hp
 obtain⟨w1,hmk,hown1,hgrow1⟩:=run_make_own (P:=Tryz.prog) w w.heap.size 161 9 i0 (.string ⟨#[]⟩) 1 Tryz.underlying161 hi hz0 hz1 .i64 .i64 l.length (by rw [hz2];omega) (by unfold maxLen;omega) (Nat.le_refl _)
 have hg1:Grew w w1:=(Below.refl _ w).grown hgrow1 (Nat.le_refl _) (fun j hj=>by cases hj)
 clear hgrow1
 go_enter Tryz.func268,Tryz.ntmps268
 go_wp2_with fail
 clear hmk
 go_loopw [5,7,13] (fun rv xv iv wr=>∃ k:Nat,k≤l.length∧iv=.int .i64 k∧wr.ownsRow w.heap.size 9 1 rv k (((l.take k).map numS).map Value.string)∧Grew w wr) (fun _ _ iv _=>l.length-(intOf iv).toNat)
 case atStart=>exact⟨0,Nat.zero_le _,rfl,by simpa using hown1,hg1⟩
 case round =>
  obtain⟨k,hk,rfl,hown,hg⟩:=hrel
  by_cases hlt:k<l.length
  ·obtain⟨ad,rfl,hbl,hc0⟩:=yM (hr.below hg) k hlt
   have hk0:(0:Int)≤(k:Int):=by omega
   have hk1:(k:Int)<(l.length:Int):=by omega
   have e1:IntKind.i64.wrap ((k:Int)+1)=((k+1:Nat):Int):=by rw [IntWalk.i64_in _ (by omega)];omega
   have HK:=hQ9 hlt
   have HT:Hid (((l.take (k+1)).map numS).map Value.string=((l.take k).map numS).map Value.string++[Value.string (numS l[k])]):=hQ9 (by rw [List.take_succ_eq_append_getElem hlt,List.map_append,List.map_append];rfl)
   have hpx:=HPP.out l[k] (List.getElem_mem hlt)
   have cC:=num_at l[k] hpx wr (hs.grew hg)
   generalize l[k]=x at *
   have CC:=hQ9 cC
   have HPX:=hQ9 hpx
   clear cC hpx
   go_wp2_with(first
    | (go_at_call 86;refine(CC.out).mono ?_;rintro e w3 ⟨rfl,hg3⟩;have hown3:=zj (S:=fun _=>False) hown (zi hg3) (fun g _ h=>h);have hgg:=zb hg hg3;have hz3:=hgg.size)
    | (at_builtin;refine zd rfl (.tmp 17) (.tmp 21) 161 rfl w.heap.size 9 i0 (.string ⟨#[]⟩) 16 Tryz.underlying161 hi hz0 hz1 hz2 rfl _ k _ rfl (hown3.alloc _) (w3.heap.size+1) (some ⟨w3.heap.size,0,none⟩) 1 1 [Value.string (numS x)] rfl rfl (zz w3 9 #[Value.string (numS x)] (0,0)) (zJ rfl) (by unfold maxLen;omega) (by omega) (by simp;omega) ?_;intro v6 w6 hown6 hgrow6 _;have hg6:=zE hgg hgrow6 (zr hown3)))
   go_roundw
   case rel=>exact⟨k+1,by have:=HK.out;omega,by go_num,by rw [HT.out];exact hown6,hg6⟩
   case measure=>have h9:=HK.out;simp [intOf];omega
  ·obtain rfl:k=l.length:=by omega
   rw [List.take_length]at hown
   go_wp2_with fail
   go_ret
   exact⟨_,rfl,hown,hg⟩
end Go.Proofs.YtkpnheenacchhaaGreatDoor
