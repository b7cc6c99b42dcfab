/- median.ranked at []int64, median.Of. -/
import Derived.Test.YtpppegnojmnicaaGreatDoorTzz
import Derived.Laws.MakeOwn
import Derived.Test.YtpppegnojmnicaaGreatDoorTay
import Derived.Test.YtpppegnojmnicaaGreatDoorTab
import Derived.Test.YtpppegnojmnicaaGreatDoorTau
import Derived.Test.YtpppegnojmnicaaGreatDoorTbc
import Derived.Test.YtpppegnojmnicaaGreatDoorTat
import Derived.Test.YtpppegnojmnicaaGreatDoorTaz
import Derived.Deep.RegionHeld3
set_option maxHeartbeats 1000000
set_option maxRecDepth 100000
set_option linter.unusedSimpArgs false
set_option linter.unusedVariables false
namespace Go.Proofs.YtpppegnojmnicaaGreatDoor
open Go.RowKit
theorem zrq (x:Int) (w:World):Calls Tryz.prog 119 #[.int .i64 x] w fun e w'=>e=.returned (.int .i64 (id x))∧Grew w w':=by
 go_enter Tryz.func119,Tryz.ntmps119
 go_wp2_with fail
 go_ret
 exact⟨rfl,za _⟩
theorem zpl (A:Option Addr) (c:Nat) (l:List Int) (hl:l.length≤1048576) (hp:∀ x∈l,in64 x) (w:World) (hr:Rd w w.heap.size A (i64L l)) :
 Calls Tryz.prog 186 #[.slice A l.length c,.func (.func 119) #[] #[]] w fun e w'=>∃ v,e=.returned v∧w'.ownsRow w.heap.size 2 1 v l.length ((l.map id).map (Value.int .i64))∧Grew w w':=by
 obtain⟨i0,hi,hz0,hz1,hz2⟩:=info_parts (show(Tryz.prog.info? 2).map (fun i=>(i.zero,i.size,i.bytes))=some (some (.int .i64 0),1,8) by kernel_rfl)
 have HPP:=hQ9 hp
 clear hp
 obtain⟨w1,hmk,hown1,hgrow1⟩:=run_make_own (P:=Tryz.prog) w w.heap.size 69 2 i0 (.int .i64 0) 1 Tryz.underlying69 hi hz0 hz1 .i64 .i64 l.length (by rw [hz2];omega) (by unfold maxLen;omega) (Nat.le_refl _)
 have hg1:Grew w w1:=(Below.refl _ w).grown hgrow1 (Nat.le_refl _) (fun j hj=>by cases hj)
 clear hgrow1
 go_enter Tryz.func186,Tryz.ntmps186
 go_wp2_with fail
 clear hmk
 go_loopw [5,7,13] (fun rv xv iv wr=>∃ k:Nat,k≤l.length∧iv=.int .i64 k∧wr.ownsRow w.heap.size 2 1 rv k (((l.take k).map id).map (Value.int .i64))∧Grew w wr) (fun _ _ iv _=>l.length-(intOf iv).toNat)
 case atStart=>exact⟨0,Nat.zero_le _,rfl,by simpa using hown1,hg1⟩
 case round =>
  obtain⟨k,hk,rfl,hown,hg⟩:=hrel
  by_cases hlt:k<l.length
  ·obtain⟨ad,rfl,hbl,hc0⟩:=yJ (hr.below hg) k hlt
   have hk0:(0:Int)≤(k:Int):=by omega
   have hk1:(k:Int)<(l.length:Int):=by omega
   have e1:IntKind.i64.wrap ((k:Int)+1)=((k+1:Nat):Int):=by rw [IntWalk.i64_in _ (by omega)];omega
   have HK:=hQ9 hlt
   have HT:Hid (((l.take (k+1)).map id).map (Value.int .i64)=((l.take k).map id).map (Value.int .i64)++[(Value.int .i64) (id l[k])]):=hQ9 (by rw [List.take_succ_eq_append_getElem hlt,List.map_append,List.map_append];rfl)
   have hpx:=HPP.out l[k] (List.getElem_mem hlt)
   have cC:=zrq l[k] wr
   generalize l[k]=x at *
   have CC:=hQ9 cC
   have HPX:=hQ9 hpx
   clear cC hpx
   go_wp2_with(first
    | (go_at_call 119;refine(CC.out).mono ?_;rintro e w3 ⟨rfl,hg3⟩;have hown3:=zx (S:=fun _=>False) hown (zJ hg3) (fun g _ h=>h);have hgg:=zc hg hg3;have hz3:=hgg.size)
    | (at_builtin;refine zi rfl (.tmp 17) (.tmp 21) 69 rfl w.heap.size 2 i0 (.int .i64 0) 8 Tryz.underlying69 hi hz0 hz1 hz2 rfl _ k _ rfl (hown3.alloc _) (w3.heap.size+1) (some ⟨w3.heap.size,0,none⟩) 1 1 [(Value.int .i64) (id x)] rfl rfl (zM w3 2 #[(Value.int .i64) (id x)] (0,0)) (yb rfl) (by unfold maxLen;omega) (by omega) (by simp;omega) ?_;intro v6 w6 hown6 hgrow6 _;have hg6:=zT hgg hgrow6 (zj hown3)))
   go_roundw
   case rel=>exact⟨k+1,by have:=HK.out;omega,by go_num,by rw [HT.out];exact hown6,hg6⟩
   case measure=>have h9:=HK.out;simp [intOf];omega
  ·obtain rfl:k=l.length:=by omega
   rw [List.take_length]at hown
   go_wp2_with fail
   go_ret
   exact⟨_,rfl,hown,hg⟩
theorem zrr (l:List Int):(l.map id).map (Value.int .i64)=i64L l:=by simp [i64L]
theorem zmp (A:Option Addr) (c:Nat) (l:List Int) (i:Nat) (hl:l.length≤1048576) (hi:i<l.length) (hp:∀ x∈l,in64 x) (w:World) (hr:Rd w w.heap.size A (i64L l)) :
 Calls Tryz.prog 118 #[.slice A l.length c,.func (.func 119) #[] #[],.int .i64 (i:Int)] w fun e w'=>e=.returned (.int .i64 (midZ l i))∧Grew w w':=by
 have CM:=hQ9 (zpl A c l hl hp w hr)
 have HI:=hQ9 hi
 clear hr hp hi
 go_enter Tryz.func118,Tryz.ntmps118
 go_wp2_with fail
 refine(CM.out).mono ?_
 rintro e w1 ⟨v,rfl,hrow,g1⟩
 rw [zrr]at hrow
 obtain⟨D,dc,rfl,hdc,hdl,hD⟩:=zv hrow
 have HD:=hQ9 hD
 clear CM hrow hD
 go_wp2_with fail
 refine(zb9 D l.length dc w1).mono ?_
 rintro e w2 ⟨rfl,hw2⟩
 have g2:Grew w1 w2:=by rw [hw2];exact ze (za _) _
 have hs2:w1.heap.size<w2.heap.size:=by rw [hw2];simp
 have hc2:w2.cell? ⟨w1.heap.size,0,none⟩=some (.slice D l.length dc):=by rw [hw2];simp
 have HD2:Hid (Rd w2 w2.heap.size D (i64L l)):=hQ9 ((HD.out.below g2).more g2.size)
 clear hw2 HD
 go_wp2_with fail
 refine(zca w1.heap.size w2.heap.size D dc l hl w2 hs2 (Nat.le_refl _) hc2 HD2.out).mono ?_
 rintro e w3 ⟨v,rfl,hrow,hnil,g3⟩
 obtain⟨E,ec,rfl,hec,hel,hE⟩:=zv hrow
 have hsl:(sortI l).length=l.length:=qM l
 obtain⟨ad,rfl,hbl,hc0⟩:=yJ (l:=sortI l) hE i (by rw [hsl];exact HI.out)
 have hm:(sortI l)[i]'(by rw [hsl];exact HI.out)=midZ l i:=by
  unfold midZ
  rw [List.getD_eq_getElem?_getD,List.getElem?_eq_getElem (show i<(sortZ l).length by rw [xM];exact HI.out)]
  rfl
 rw [hm]at hc0
 have hi0:(0:Int)≤(i:Int):=by omega
 have hi1:(i:Int)<(l.length:Int):=by have:=HI.out;omega
 have G:=zc g1 (zc g2 (g3.mono (by omega)))
 clear hm hrow hnil hE hc2 HD2
 go_wp2_with fail
 go_ret
 exact⟨rfl,G⟩
def mdV (f:Nat) (l:List Int):Int:=if l.length=2*f+1 then midZ l f else 0
def mdE (f:Nat) (l:List Int):Int:=if l.length=2*f+1 then 0 else 8
theorem ziv {w:World} {b:Nat} {f:Int} (h:Ag w b (#[.int .i64 f]:Array Value).toList):w.rangeAt b 0 [.int .i64 f]:=h.cell
theorem ziw (f:Nat) (hf:1≤f∧f≤3) (A:Option Addr) (c:Nat) (l:List Int) (hl:l.length≤1048576) (hp:∀ x∈l,in64 x) (w:World) (hr:Rd w w.heap.size A (i64L l)) :
 Calls Tryz.prog 38 #[.agg #[.int .i64 (f:Int)],.slice A l.length c] w fun e w'=>e=.returned (.tuple #[.int .i64 (mdV f l),.int .i64 (mdE f l)])∧Grew w w':=by
 have huf:=Tryz.underlying47
 have HCF:Hid ((Tryz.prog.info? 47).map (·.size)=some [Value.int .i64 (f:Int)].length):=hQ9 (by kernel_rfl)
 have CQ:=hQ9 (fun W=>qq_ok (f:Int) (by omega) W)
 have zk:=Ag.new w 47 #[.int .i64 (f:Int)]
 have G1:=ze (za w) (.cells #[.int .i64 (f:Int)] 47)
 have hm0:(w.alloc (.cells #[.int .i64 (f:Int)] 47)).rangeAt w.heap.size 0 [.int .i64 (f:Int)]:=ziv zk
 have hc0:(w.alloc (.cells #[.int .i64 (f:Int)] 47)).cell? ⟨w.heap.size,0,none⟩=some (.int .i64 (f:Int)):=by simp
 have hf0:decide ((f:Int)<0)=false:=decide_eq_false (by omega)
 have HR:=hQ9 hr
 clear hr
 by_cases hq:l.length=2*f+1
 ·have hV:Hid (mdV f l=midZ l f∧mdE f l=0):=hQ9 (by unfold mdV mdE;rw [if_pos hq,if_pos hq];exact⟨rfl,rfl⟩)
  have CR:=hQ9 (fun W hW=>zmp A c l f hl (by omega) hp W hW)
  have e1:decide (l.length≤f)=false:=decide_eq_false (by omega)
  have e2:((l.length:Int) != 2*(f:Int)+1)=false:=by simp;omega
  obtain⟨nn,hnn⟩:∃ nn,2*(f:Int)+1=nn:=⟨_,rfl⟩
  rw [hnn]at CQ e2
  have hf0':(f:Int)<(l.length:Int):=by omega
  clear hq hp hl hnn
  go_enter Tryz.func38,Tryz.ntmps38
  go_wp2_with(refine zl (by rfl) 47 (.tmp 2) rfl w.heap.size 0 rfl [.int .i64 (f:Int)] _ hm0 huf rfl HCF.out ?_)
  refine(CQ.out _).mono ?_
  rintro e w1 ⟨rfl,gg⟩
  have zk1:=zk.grew gg
  have G2:=zc G1 gg
  have hc1:w1.cell? ⟨w.heap.size,0,none⟩=some (.int .i64 (f:Int)):=by simpa using zk1.cell 0 _ rfl
  clear hm0 hc0 zk zk1 gg CQ G1
  go_wp2_with fail
  refine(CR.out w1 (HR.out.gr G2)).mono ?_
  rintro e w2 ⟨rfl,gg⟩
  go_wp2_with fail
  go_ret2
  exact⟨by rw [hV.out.1,hV.out.2];rfl,zc G2 gg⟩
 ·have hV:Hid (mdV f l=0∧mdE f l=8):=hQ9 (by unfold mdV mdE;rw [if_neg hq,if_neg hq];exact⟨rfl,rfl⟩)
  by_cases hge:l.length≤f
  ·have e1:decide (l.length≤f)=true:=decide_eq_true (by omega)
   clear hq hp hl HR
   go_enter Tryz.func38,Tryz.ntmps38
   go_wp2_with fail
   go_ret2
   exact⟨by rw [hV.out.1,hV.out.2];rfl,G1⟩
  ·have e1:decide (l.length≤f)=false:=decide_eq_false (by omega)
   have e2:((l.length:Int) != 2*(f:Int)+1)=true:=by simp;omega
   obtain⟨nn,hnn⟩:∃ nn,2*(f:Int)+1=nn:=⟨_,rfl⟩
   rw [hnn]at CQ e2
   clear hq hp hl hnn hge HR
   go_enter Tryz.func38,Tryz.ntmps38
   go_wp2_with(refine zl (by rfl) 47 (.tmp 2) rfl w.heap.size 0 rfl [.int .i64 (f:Int)] _ hm0 huf rfl HCF.out ?_)
   refine(CQ.out _).mono ?_
   rintro e w1 ⟨rfl,gg⟩
   have G2:=zc G1 gg
   clear hm0 hc0 zk gg CQ G1
   go_wp2_with fail
   go_ret2
   exact⟨by rw [hV.out.1,hV.out.2];rfl,G2⟩
open Go.Lib
theorem gDN {a b:World} (h:Grew a b) (n:Nat):Grew a (b.drewN n):=⟨h.os,h.tape,h.output,h.size,h.block⟩
theorem gAL {a b:World} (h:Grew a b) (o:Obj):Grew a (b.alloc o):=h.alloc h.size o
theorem zE {P:Program} {w:World} {ops:Array Oper} {o:Oper} {a:Act} {K:Act→World→Prop} {Q:Exit→Act→World→Prop} {E:Prop} (hgd:o.guard=none) (s x:Operand) (t:TypeId)
 (ho:o.op=.call { callee:=.builtin .append,args:=#[s,x],argTypes:=#[t,t] })
 (base:Nat) (e:TypeId) (i:TypeInfo) (z:Value) (bytes:Nat) (ht:P.underlying t=some (.slice e)) (hi:P.info? e=some i) (hz:i.zero=some z)
 (hsize:i.size=1) (hby:i.bytes=bytes) (hzs:z.cells.size=1) (v:Value) (n:Nat) (xs:List Value) (hs:a.eval s=v) (hown:w.ownsRow base e 1 v n xs)
 (B:Nat) (A:Option Addr) (m c:Nat) (news:List Value) (hx:a.eval x=.slice A m c) (hm:news.length=m) (hr:Rd w B A news) (h1:∀ u∈news,u.oneCell'=true)
 (h63:n+m≤maxLen) (hbytes:(n+m)*bytes≤140737488355328) (hbase:base≤w.heap.size)
 (h:∀ v' w',w'.ownsRow base e 1 v' (n+m) (xs++news)→w.grownBy w' v.ownBlock→(v'.ownBlock=v.ownBlock∨v'.ownBlock=some w.heap.size)→K (a.put o.dst v') w') :
 if Region.wanted o (yielded ops a.tmps)=true then Oper.wp P o a w K Q else E:=by
 have hw:Region.wanted o (yielded ops a.tmps)=true:=by simp [Region.wanted,hgd]
 rw [if_pos hw]
 exact qD w s x t ho base e i z bytes ht hi hz hsize hby hzs v n xs hs hown B A m c news hx hm hr h1 h63 hbytes hbase h
theorem xT {w:World} {B:Nat} {A:Option Addr} {l:List Int} (h:Rd w B A (i64L l)) (n:Nat):Rd w B A (i64L (l.take n)):=by
 intro k hk
 have hk':k<l.length:=by simp [i64L]at hk;omega
 obtain⟨ad,h1,h2,h3⟩:=h k (by simpa [i64L]using hk')
 exact⟨ad,h1,h2,by rw [h3];simp [i64L]⟩
theorem zO {a b c:World} {r:Option Nat} (h:Grew a b) (k:b.grownBy c r) (hr:∀ i,r=some i→a.heap.size≤i):Grew a c:=h.grown k h.size hr
theorem zpm {w:World} {B:Nat} {ad:Addr} {xs:List Value} (h:Rd w B (some ad) xs) (n:Nat):Rd w B (some (ad.add n)) (xs.drop n):=by
 intro k hk
 rw [List.length_drop]at hk
 obtain⟨ad',h1,h2,h3⟩:=h (n+k) (by omega)
 injection h1 with h1
 subst h1
 refine⟨_,rfl,by rw [zL];exact h2,?_⟩
 rw [zn8,h3]
 simp
theorem qN {w:World} {B:Nat} {ad:Addr} {l:List Int} (h:Rd w B (some ad) (i64L l)) (n:Nat):Rd w B (some (ad.add n)) (i64L (l.drop n)):=by
 have:=zpm h n
 rw [show(i64L l).drop n=i64L (l.drop n) by simp [i64L]]at this
 exact this
theorem zgj (d:List Int) (k:Nat) (z:Int) (hk:k≤d.length):(d.take k++z::d.drop k).length=k+1+(d.length-k):=by simp;omega
theorem zix (d:List Int) (k:Nat) (z:Int):i64L (d.take k++z::d.drop k)=i64L (d.take k)++[.int .i64 z]++i64L (d.drop k):=by simp [i64L]
theorem zgk (d:List Int) (z:Int):(d.take d.length++z::d.drop d.length).length=d.length+1+0:=by simp
theorem zgl (d:List Int) (z:Int):i64L (d.take d.length++z::d.drop d.length)=i64L (d.take d.length)++[.int .i64 z]++i64L []:=by simp [i64L]
theorem xG {w:World} {B g:Nat} {u:Value} (h:w.cell? ⟨g,0,none⟩=some u) (hb:g<B):Rd w B (some ⟨g,0,none⟩) [u]:=by
 intro k hk
 have:k=0:=by simp at hk;omega
 subst this
 exact⟨_,rfl,hb,h⟩
theorem jc (W:World) (t:TypeId) (z:Int):(((W.alloc (.cells #[] t)).alloc (.cells #[.int .i64 z] t)).drew).cell? ⟨W.heap.size+1,0,none⟩=some (.int .i64 z):=by
 have:=(Boxed.new (W.alloc (.cells #[] t)) t (.int .i64 z)).cell
 rw [World.size_alloc]at this
 exact this
theorem jd (W:World) (t:TypeId) (z:Int):(((W.alloc (.cells #[.int .i64 z] t)).alloc (.cells #[] t)).drew).cell? ⟨W.heap.size,0,none⟩=some (.int .i64 z) :=
 (((Below.refl _ (W.alloc (.cells #[.int .i64 z] t))).alloc (Nat.le_refl _) (.cells #[] t)).cell (p:=⟨W.heap.size,0,none⟩) (by simp)).trans (Boxed.new W t (.int .i64 z)).cell
theorem zu {a b:World} (h:Grew a b):Grew a b.drew:=⟨h.os,h.tape,h.output,h.size,h.block⟩
theorem zj7 (A:Option Addr) (c:Nat) (l:List Int) (hz:l.length≤1048576) (w:World) (hr:Rd w w.heap.size A (i64L l)) :
 Calls Tryz.prog 104 #[.slice A l.length c] w fun e w'=>∃ v,e=.returned v∧w'.ownsRow w.heap.size 2 1 v (sortZ l).length (i64L (sortZ l))∧Grew w w':=by
 obtain⟨i0,hi,hz0,hz1,hz2⟩:=info_parts (show(Tryz.prog.info? 2).map (fun i=>(i.zero,i.size,i.bytes))=some (some (.int .i64 0),1,8) by kernel_rfl)
 go_enter Tryz.func104,Tryz.ntmps104
 go_wp2_with fail
 go_loopw [3,4] (fun ov iv wr=>∃ i:Nat,i≤l.length∧iv=.int .i64 i∧wr.ownsRow w.heap.size 2 1 ov (sortZ (l.take i)).length (i64L (sortZ (l.take i)))∧Grew w wr) (fun _ i _=>l.length-(Go.RowKit.intOf i).toNat)
 case atStart=>exact⟨0,Nat.zero_le _,rfl,by rw [List.take_zero,show sortZ []=[] by simp [sortZ]];exact World.ownsRow_nil _ _ _ _,Below.refl _ _⟩
 case round =>
  obtain⟨i,hil,rfl,hown,hg⟩:=hrel
  by_cases hlt:i<l.length
  ·obtain⟨ad,rfl,hbl,hc0⟩:=yJ (hr.below hg) i hlt
   have hts:l.take (i+1)=l.take i++[l[i]]:=by rw [List.take_succ_eq_append_getElem hlt]
   have hll:(sortZ (l.take i)).length≤i:=by rw [xM,List.length_take];omega
   have HTS:=hQ9 hts
   have HP:Hid (∀ k,k≤(sortZ (l.take i)).length→(∀ j (hj:j<(sortZ (l.take i)).length),k≤j→l[i]<(sortZ (l.take i))[j])→(∀ hj:k-1<(sortZ (l.take i)).length,0<k→(sortZ (l.take i))[k-1]≤l[i])→sortZ (l.take i++[l[i]])=(sortZ (l.take i)).take k++l[i]::(sortZ (l.take i)).drop k):=hQ9 (fun k h1 h2 h3=>(zn4 h1 h2 h3).symm)
   clear hts
   generalize l[i]=z at *
   obtain⟨d,hd⟩:∃ d,sortZ (l.take i)=d:=⟨_,rfl⟩
   rw [hd]at hown hll HP
   clear hd
   obtain⟨D,dc,rfl,hdc,-,hD⟩:=zv hown
   have HSM:Hid (0<dc→∃ ad',D=some ad'):=hQ9 (fun h=>by
    rcases hown.2 with ⟨h1,h2⟩ | ⟨g,cap,cur,h1,_⟩
    ·injection h1 with h3 h4 h5
     omega
    ·injection h1 with h3 h4 h5
     exact⟨_,h3⟩)
   have hi0:(0:Int)≤(i:Int):=by omega
   have hi1:(i:Int)<(l.length:Int):=by omega
   go_wp2_with fail
   go_loopw [5] (fun kv w2=>∃(k n:Nat),k≤d.length∧kv=.int .i64 k∧Hid (∀ j (hj:j<d.length),k≤j→z<d[j])∧w2=wr.drewN n) (fun kv _=>(Go.RowKit.intOf kv).toNat)
   case atStart=>exact⟨d.length,0,Nat.le_refl _,rfl,hQ9 (fun j hj h=>by omega),rfl⟩
   case round =>
    obtain⟨k,n,hk,rfl,HK,rfl⟩:=hrel
    by_cases hk0:k=0
    ·have HE:=hQ9 (HP.out k hk HK.out (fun _ h=>by omega))
     have ek0:decide (0<k)=false:=decide_eq_false (by omega)
     clear hk0
     by_cases hkd:k=dc
     ·obtain rfl:k=d.length:=by omega
      obtain rfl:dc=d.length:=hkd.symm
      clear hkd
      go_wp2_with fail
      go_quiet (fail)
      go_wp2_with fail
      obtain⟨W,hW⟩:∃ W,(wr.drewN n).drewN nq=W:=⟨_,rfl⟩
      have hgW:Grew w W:=by rw [←hW];exact gDN (gDN hg _) _
      have hcW:W.cell? (ad.add i)=some (.int .i64 z):=by rw [←hW];exact hc0
      have hDW:Rd W W.heap.size D (i64L d):=by rw [←hW];exact hD
      rw [hW]
      clear hW hD hown hc0 hr
      have hzW:=hgW.size
      have HTK:=hQ9 (show(i64L (d.take d.length)).length=d.length by rw [yB,List.length_take];omega)
      have HDK:=hQ9 (show(i64L (d.drop d.length)).length=d.length-d.length by rw [yB,List.length_drop])
      have HRT:=hQ9 (xT hDW d.length)
      have HRW:=hQ9 hDW
      clear hDW
      have HMA:=hQ9 (World.ownsRow_made (base:=W.heap.size) (e:=2) (size:=1) W #[] 0 (Nat.le_refl _) (by decide) rfl)
      have HMC:Hid (((W.alloc (.cells #[.int .i64 z] 2)).alloc (.cells #[] 2)).ownsRow W.heap.size 2 1 (.slice (some ⟨W.heap.size+1,0,none⟩) 0 0) 0 []):=hQ9 (by have:=World.ownsRow_made (base:=W.heap.size) (e:=2) (size:=1) (W.alloc (.cells #[.int .i64 z] 2)) #[] 0 (by simp) (by decide) rfl;rwa [World.size_alloc]at this)
      have hbz:(ad.add i).block<W.heap.size:=by rw [zL];omega
      have hkc:(d.length:Int)≤(d.length:Int):=by omega
      have hkc':d.length≤d.length:=by omega
      go_region_held3 (fun w'=>w'.cell? (ad.add i)=some (.int .i64 z)) (go_keep)
       (first
         | (refine zE (by rfl) _ _ _ (by rfl) W.heap.size 2 i0 _ 8 Tryz.underlying69 hi hz0 hz1 hz2 rfl (.slice (some ⟨W.heap.size,0,none⟩) 0 0) 0 [] (by rfl) (by exact HMA.out) W.heap.size D d.length d.length (i64L (d.take d.length)) (by rfl) HTK.out (by exact HRT.out.alloc (Nat.le_refl _) _) (yk _) (by unfold maxLen;omega) (by omega) (by simp) ?_
            intro v5 w5 hown5 hgrow5 hat5
            simp only [Nat.zero_add,List.nil_append]at hown5
            obtain⟨A5,c5,rfl,hn5,_,hrd5⟩:=zv hown5
            have hg5:Grew W w5:=zO (by first | exact zu (gAL (Below.refl _ W) _) | exact zu (zu (gAL (Below.refl _ W) _))) hgrow5 (fun j hj=>by have h2:some W.heap.size=some j:=hj;injection h2 with h2;omega)
            have hz5A:=hg5.size
            have hq5:w5.cell? (ad.add i)=some (.int .i64 z):=(hg5.cell hbz).trans hcW)
         | (refine zE (by rfl) _ _ _ (by rfl) W.heap.size 2 i0 _ 8 Tryz.underlying69 hi hz0 hz1 hz2 rfl (.slice A5 d.length c5) d.length (i64L (d.take d.length)) (by rfl) (by exact(hown5.alloc _)) (w5.heap.size+1) (some ⟨w5.heap.size,0,none⟩) 1 1 [.int .i64 z] (by rfl) rfl (by exact zM w5 2 #[.int .i64 z] (0,0)) (zY _ _) (by unfold maxLen;omega) (by omega) (by have h5:=hz5A;first | (simp;done) | (simp;omega)) ?_
            intro v6 w6 hown6 hgrow6 hat6
            have hg6:Grew W w6:=zO (by first | exact gAL hg5 _ | exact zu (gAL hg5 _)) hgrow6 (zj hown5)
            have hq6:w6.cell? (ad.add i)=some (.int .i64 z):=(hg6.cell hbz).trans hcW
            clear hat5 hgrow5 hgrow6 hown5 hn5 hrd5 hg5 hz5A)
         | (refine zE (by rfl) _ _ _ (by rfl) W.heap.size 2 i0 _ 8 Tryz.underlying69 hi hz0 hz1 hz2 rfl (.slice (some ⟨W.heap.size,0,none⟩) 0 0) 0 [] (by rfl) (by exact(HMA.out.alloc _)) W.heap.size D d.length d.length (i64L (d.take d.length)) (by rfl) HTK.out (by exact(HRT.out.alloc (Nat.le_refl _) _).alloc (by simp) _) (yk _) (by unfold maxLen;omega) (by omega) (by first | (simp;done) | (simp;omega)) ?_
            intro v5 w5 hown5 hgrow5 hat5
            simp only [Nat.zero_add,List.nil_append]at hown5
            obtain⟨A5,c5,rfl,hn5,_,hrd5⟩:=zv hown5
            have hg5:Grew W w5:=zO (by first | exact zu (gAL (gAL (Below.refl _ W) _) _) | exact zu (zu (gAL (gAL (Below.refl _ W) _) _))) hgrow5 (fun j hj=>by have h2:some W.heap.size=some j:=hj;injection h2 with h2;omega)
            have hq5:w5.cell? (ad.add i)=some (.int .i64 z):=(hg5.cell hbz).trans hcW
            have hz5B:w5.cell? ⟨W.heap.size+1,0,none⟩=some (.int .i64 z):=(hgrow5.cell_far ⟨W.heap.size+1,0,none⟩ (by first | (simp;done) | (simp;omega)) (fun h=>by have h2:some (W.heap.size+1)=some W.heap.size:=h;injection h2 with h2;omega)).trans (jc W _ z)
            have hz5l:W.heap.size+2≤w5.heap.size:=by have h5:=hgrow5.size;simp at h5;omega)
         | (refine zE (by rfl) _ _ _ (by rfl) W.heap.size 2 i0 _ 8 Tryz.underlying69 hi hz0 hz1 hz2 rfl (.slice A5 d.length c5) d.length (i64L (d.take d.length)) (by rfl) (by exact hown5) w5.heap.size (some ⟨W.heap.size+1,0,none⟩) 1 1 [.int .i64 z] (by rfl) rfl (xG hz5B (by omega)) (zY _ _) (by unfold maxLen;omega) (by omega) (by omega) ?_
            intro v6 w6 hown6 hgrow6 hat6
            have hg6:Grew W w6:=zO (by first | exact hg5 | exact zu hg5) hgrow6 (zj hown5)
            have hq6:w6.cell? (ad.add i)=some (.int .i64 z):=(hg6.cell hbz).trans hcW
            clear hat5 hgrow5 hgrow6 hown5 hn5 hrd5 hg5 hz5B hz5l)
         | (refine zE (by rfl) _ _ _ (by rfl) W.heap.size 2 i0 _ 8 Tryz.underlying69 hi hz0 hz1 hz2 rfl (.slice (some ⟨W.heap.size+1,0,none⟩) 0 0) 0 [] (by rfl) (by exact HMC.out) W.heap.size D d.length d.length (i64L (d.take d.length)) (by rfl) HTK.out (by exact(HRT.out.alloc (Nat.le_refl _) _).alloc (by simp) _) (yk _) (by unfold maxLen;omega) (by omega) (by first | (simp;done) | (simp;omega)) ?_
            intro v5 w5 hown5 hgrow5 hat5
            simp only [Nat.zero_add,List.nil_append]at hown5
            obtain⟨A5,c5,rfl,hn5,_,hrd5⟩:=zv hown5
            have hg5:Grew W w5:=zO (by first | exact zu (gAL (gAL (Below.refl _ W) _) _) | exact zu (zu (gAL (gAL (Below.refl _ W) _) _))) hgrow5 (fun j hj=>by have h2:some (W.heap.size+1)=some j:=hj;injection h2 with h2;omega)
            have hq5:w5.cell? (ad.add i)=some (.int .i64 z):=(hg5.cell hbz).trans hcW
            have hz5C:w5.cell? ⟨W.heap.size,0,none⟩=some (.int .i64 z):=(hgrow5.cell_far ⟨W.heap.size,0,none⟩ (by first | (simp;done) | (simp;omega)) (fun h=>by have h2:some W.heap.size=some (W.heap.size+1):=h;injection h2 with h2;omega)).trans (jd W _ z)
            have hz5l:W.heap.size+2≤w5.heap.size:=by have h5:=hgrow5.size;simp at h5;omega)
         | (refine zE (by rfl) _ _ _ (by rfl) W.heap.size 2 i0 _ 8 Tryz.underlying69 hi hz0 hz1 hz2 rfl (.slice A5 d.length c5) d.length (i64L (d.take d.length)) (by rfl) (by exact hown5) w5.heap.size (some ⟨W.heap.size,0,none⟩) 1 1 [.int .i64 z] (by rfl) rfl (xG hz5C (by omega)) (zY _ _) (by unfold maxLen;omega) (by omega) (by omega) ?_
            intro v6 w6 hown6 hgrow6 hat6
            have hg6:Grew W w6:=zO (by first | exact hg5 | exact zu hg5) hgrow6 (zj hown5)
            have hq6:w6.cell? (ad.add i)=some (.int .i64 z):=(hg6.cell hbz).trans hcW
            clear hat5 hgrow5 hgrow6 hown5 hn5 hrd5 hg5 hz5C hz5l))
      all_goals
       obtain⟨A6,c6,rfl,hn6,_,hrd6⟩:=zv hown6
       have HDD:=hQ9 (show Rd w6 W.heap.size D (i64L []) from Rd.nil_ _ _ _)
       have hz6:=hg6.size
       clear hat6
       go_wp2_with(at_builtin;refine zi rfl (.tmp 42) (.tmp 45) 69 rfl W.heap.size 2 i0 (.int .i64 0) 8 Tryz.underlying69 hi hz0 hz1 hz2 rfl (.slice A6 (d.length+1) c6) (d.length+1) (i64L (d.take d.length)++[.int .i64 z]) rfl hown6 W.heap.size D 0 0 (i64L []) rfl rfl HDD.out (yk _) (by unfold maxLen;omega) (by omega) (by omega) ?_;intro v7 w7 hown7 hgrow7 hat7)
       go_roundw
       case rel=>exact⟨i+1,by omega,by go_num,by rw [HTS.out,HE.out,zgk d z,zgl d z];exact xy hown7 hzW,(zc hgW hg6).grown hgrow7 (by omega) (fun j hj=>Nat.le_trans hzW (zj hown6 j hj))⟩
       case measure=>simp [Go.RowKit.intOf];omega
     ·obtain⟨ad',rfl⟩:=HSM.out (by omega)
      have hkl:k<dc:=by omega
      go_wp2_with fail
      go_quiet (fail)
      go_wp2_with fail
      obtain⟨W,hW⟩:∃ W,(wr.drewN n).drewN nq=W:=⟨_,rfl⟩
      have hgW:Grew w W:=by rw [←hW];exact gDN (gDN hg _) _
      have hcW:W.cell? (ad.add i)=some (.int .i64 z):=by rw [←hW];exact hc0
      have hDW:Rd W W.heap.size (some ad') (i64L d):=by rw [←hW];exact hD
      rw [hW]
      clear hW hD hown hc0 hr
      have hzW:=hgW.size
      have HTK:=hQ9 (show(i64L (d.take k)).length=k by rw [yB,List.length_take];omega)
      have HDK:=hQ9 (show(i64L (d.drop k)).length=d.length-k by rw [yB,List.length_drop])
      have HRT:=hQ9 (xT hDW k)
      have HRW:=hQ9 hDW
      clear hDW
      have HMA:=hQ9 (World.ownsRow_made (base:=W.heap.size) (e:=2) (size:=1) W #[] 0 (Nat.le_refl _) (by decide) rfl)
      have HMC:Hid (((W.alloc (.cells #[.int .i64 z] 2)).alloc (.cells #[] 2)).ownsRow W.heap.size 2 1 (.slice (some ⟨W.heap.size+1,0,none⟩) 0 0) 0 []):=hQ9 (by have:=World.ownsRow_made (base:=W.heap.size) (e:=2) (size:=1) (W.alloc (.cells #[.int .i64 z] 2)) #[] 0 (by simp) (by decide) rfl;rwa [World.size_alloc]at this)
      have hbz:(ad.add i).block<W.heap.size:=by rw [zL];omega
      have hkc:(k:Int)≤(dc:Int):=by omega
      have hkc':k≤dc:=by omega
      go_region_held3 (fun w'=>w'.cell? (ad.add i)=some (.int .i64 z)) (go_keep)
       (first
         | (refine zE (by rfl) _ _ _ (by rfl) W.heap.size 2 i0 _ 8 Tryz.underlying69 hi hz0 hz1 hz2 rfl (.slice (some ⟨W.heap.size,0,none⟩) 0 0) 0 [] (by rfl) (by exact HMA.out) W.heap.size (some ad') k dc (i64L (d.take k)) (by rfl) HTK.out (by exact HRT.out.alloc (Nat.le_refl _) _) (yk _) (by unfold maxLen;omega) (by omega) (by simp) ?_
            intro v5 w5 hown5 hgrow5 hat5
            simp only [Nat.zero_add,List.nil_append]at hown5
            obtain⟨A5,c5,rfl,hn5,_,hrd5⟩:=zv hown5
            have hg5:Grew W w5:=zO (by first | exact zu (gAL (Below.refl _ W) _) | exact zu (zu (gAL (Below.refl _ W) _))) hgrow5 (fun j hj=>by have h2:some W.heap.size=some j:=hj;injection h2 with h2;omega)
            have hz5A:=hg5.size
            have hq5:w5.cell? (ad.add i)=some (.int .i64 z):=(hg5.cell hbz).trans hcW)
         | (refine zE (by rfl) _ _ _ (by rfl) W.heap.size 2 i0 _ 8 Tryz.underlying69 hi hz0 hz1 hz2 rfl (.slice A5 k c5) k (i64L (d.take k)) (by rfl) (by exact(hown5.alloc _)) (w5.heap.size+1) (some ⟨w5.heap.size,0,none⟩) 1 1 [.int .i64 z] (by rfl) rfl (by exact zM w5 2 #[.int .i64 z] (0,0)) (zY _ _) (by unfold maxLen;omega) (by omega) (by have h5:=hz5A;first | (simp;done) | (simp;omega)) ?_
            intro v6 w6 hown6 hgrow6 hat6
            have hg6:Grew W w6:=zO (by first | exact gAL hg5 _ | exact zu (gAL hg5 _)) hgrow6 (zj hown5)
            have hq6:w6.cell? (ad.add i)=some (.int .i64 z):=(hg6.cell hbz).trans hcW
            clear hat5 hgrow5 hgrow6 hown5 hn5 hrd5 hg5 hz5A)
         | (refine zE (by rfl) _ _ _ (by rfl) W.heap.size 2 i0 _ 8 Tryz.underlying69 hi hz0 hz1 hz2 rfl (.slice (some ⟨W.heap.size,0,none⟩) 0 0) 0 [] (by rfl) (by exact(HMA.out.alloc _)) W.heap.size (some ad') k dc (i64L (d.take k)) (by rfl) HTK.out (by exact(HRT.out.alloc (Nat.le_refl _) _).alloc (by simp) _) (yk _) (by unfold maxLen;omega) (by omega) (by first | (simp;done) | (simp;omega)) ?_
            intro v5 w5 hown5 hgrow5 hat5
            simp only [Nat.zero_add,List.nil_append]at hown5
            obtain⟨A5,c5,rfl,hn5,_,hrd5⟩:=zv hown5
            have hg5:Grew W w5:=zO (by first | exact zu (gAL (gAL (Below.refl _ W) _) _) | exact zu (zu (gAL (gAL (Below.refl _ W) _) _))) hgrow5 (fun j hj=>by have h2:some W.heap.size=some j:=hj;injection h2 with h2;omega)
            have hq5:w5.cell? (ad.add i)=some (.int .i64 z):=(hg5.cell hbz).trans hcW
            have hz5B:w5.cell? ⟨W.heap.size+1,0,none⟩=some (.int .i64 z):=(hgrow5.cell_far ⟨W.heap.size+1,0,none⟩ (by first | (simp;done) | (simp;omega)) (fun h=>by have h2:some (W.heap.size+1)=some W.heap.size:=h;injection h2 with h2;omega)).trans (jc W _ z)
            have hz5l:W.heap.size+2≤w5.heap.size:=by have h5:=hgrow5.size;simp at h5;omega)
         | (refine zE (by rfl) _ _ _ (by rfl) W.heap.size 2 i0 _ 8 Tryz.underlying69 hi hz0 hz1 hz2 rfl (.slice A5 k c5) k (i64L (d.take k)) (by rfl) (by exact hown5) w5.heap.size (some ⟨W.heap.size+1,0,none⟩) 1 1 [.int .i64 z] (by rfl) rfl (xG hz5B (by omega)) (zY _ _) (by unfold maxLen;omega) (by omega) (by omega) ?_
            intro v6 w6 hown6 hgrow6 hat6
            have hg6:Grew W w6:=zO (by first | exact hg5 | exact zu hg5) hgrow6 (zj hown5)
            have hq6:w6.cell? (ad.add i)=some (.int .i64 z):=(hg6.cell hbz).trans hcW
            clear hat5 hgrow5 hgrow6 hown5 hn5 hrd5 hg5 hz5B hz5l)
         | (refine zE (by rfl) _ _ _ (by rfl) W.heap.size 2 i0 _ 8 Tryz.underlying69 hi hz0 hz1 hz2 rfl (.slice (some ⟨W.heap.size+1,0,none⟩) 0 0) 0 [] (by rfl) (by exact HMC.out) W.heap.size (some ad') k dc (i64L (d.take k)) (by rfl) HTK.out (by exact(HRT.out.alloc (Nat.le_refl _) _).alloc (by simp) _) (yk _) (by unfold maxLen;omega) (by omega) (by first | (simp;done) | (simp;omega)) ?_
            intro v5 w5 hown5 hgrow5 hat5
            simp only [Nat.zero_add,List.nil_append]at hown5
            obtain⟨A5,c5,rfl,hn5,_,hrd5⟩:=zv hown5
            have hg5:Grew W w5:=zO (by first | exact zu (gAL (gAL (Below.refl _ W) _) _) | exact zu (zu (gAL (gAL (Below.refl _ W) _) _))) hgrow5 (fun j hj=>by have h2:some (W.heap.size+1)=some j:=hj;injection h2 with h2;omega)
            have hq5:w5.cell? (ad.add i)=some (.int .i64 z):=(hg5.cell hbz).trans hcW
            have hz5C:w5.cell? ⟨W.heap.size,0,none⟩=some (.int .i64 z):=(hgrow5.cell_far ⟨W.heap.size,0,none⟩ (by first | (simp;done) | (simp;omega)) (fun h=>by have h2:some W.heap.size=some (W.heap.size+1):=h;injection h2 with h2;omega)).trans (jd W _ z)
            have hz5l:W.heap.size+2≤w5.heap.size:=by have h5:=hgrow5.size;simp at h5;omega)
         | (refine zE (by rfl) _ _ _ (by rfl) W.heap.size 2 i0 _ 8 Tryz.underlying69 hi hz0 hz1 hz2 rfl (.slice A5 k c5) k (i64L (d.take k)) (by rfl) (by exact hown5) w5.heap.size (some ⟨W.heap.size,0,none⟩) 1 1 [.int .i64 z] (by rfl) rfl (xG hz5C (by omega)) (zY _ _) (by unfold maxLen;omega) (by omega) (by omega) ?_
            intro v6 w6 hown6 hgrow6 hat6
            have hg6:Grew W w6:=zO (by first | exact hg5 | exact zu hg5) hgrow6 (zj hown5)
            have hq6:w6.cell? (ad.add i)=some (.int .i64 z):=(hg6.cell hbz).trans hcW
            clear hat5 hgrow5 hgrow6 hown5 hn5 hrd5 hg5 hz5C hz5l))
      all_goals
       obtain⟨A6,c6,rfl,hn6,_,hrd6⟩:=zv hown6
       have HDD:=hQ9 (show Rd w6 W.heap.size (some (ad'.add k)) (i64L (d.drop k)) from qN (HRW.out.below hg6) k)
       have hz6:=hg6.size
       clear hat6
       go_wp2_with(at_builtin;refine zi rfl (.tmp 42) (.tmp 45) 69 rfl W.heap.size 2 i0 (.int .i64 0) 8 Tryz.underlying69 hi hz0 hz1 hz2 rfl (.slice A6 (k+1) c6) (k+1) (i64L (d.take k)++[.int .i64 z]) rfl hown6 W.heap.size (some (ad'.add k)) (d.length-k) (dc-k) (i64L (d.drop k)) rfl HDK.out HDD.out (yk _) (by unfold maxLen;omega) (by omega) (by omega) ?_;intro v7 w7 hown7 hgrow7 hat7)
       go_roundw
       case rel=>exact⟨i+1,by omega,by go_num,by rw [HTS.out,HE.out,zgj d k z (by omega),zix d k z];exact xy hown7 hzW,(zc hgW hg6).grown hgrow7 (by omega) (fun j hj=>Nat.le_trans hzW (zj hown6 j hj))⟩
       case measure=>simp [Go.RowKit.intOf];omega
    ·obtain⟨ad1,hDa,hbl',hc1⟩:=yJ hD (k-1) (by omega)
     have ek0:decide (0<k)=true:=decide_eq_true (by omega)
     have ekm:IntKind.i64.wrap ((k:Int)-1)=((k-1:Nat):Int):=by rw [IntWalk.i64_in _ (by omega)];omega
     have hk1:((k-1:Nat):Int)<(d.length:Int):=by omega
     obtain⟨y,hy⟩:∃ y,d[k-1]'(by omega)=y:=⟨_,rfl⟩
     rw [hy]at hc1
     have HY:=hQ9 hy
     clear hy
     have hkk1:k-1<k:=by omega
     obtain⟨km,hkm⟩:∃ km,k-1=km:=⟨_,rfl⟩
     rw [hkm]at hk1 ekm hc1 hkk1
     have hkm0:(0:Int)≤(km:Int):=by omega
     have HKM:=hQ9 hkm
     have HK0:=hQ9 hk0
     clear hkm hk0
     by_cases hyz:z<y
     ·have HK2:Hid (∀ j (hj:j<d.length),km≤j→z<d[j]):=hQ9 (fun j hj h=>by
       have hkm:=HKM.out
       rcases Nat.lt_or_ge j k with h1 | h1
       ·have:j=k-1:=by omega
        subst this
        rw [HY.out];exact hyz
       ·exact HK.out j hj h1)
      subst hDa
      go_wp2_with fail
      go_quiet (fail)
      go_wp2_with fail
      go_roundw
      case rel=>exact⟨km,n+nq,by omega,rfl,HK2,rfl⟩
      case measure=>simp [Go.RowKit.intOf];omega
     ·have HE:=hQ9 (HP.out k hk HK.out (fun _ _=>by rw [HY.out];omega))
      clear HY
      subst hDa
      by_cases hkd:k=dc
      ·obtain rfl:k=d.length:=by omega
       obtain rfl:dc=d.length:=hkd.symm
       clear hkd
       go_wp2_with fail
       go_quiet (fail)
       go_wp2_with fail
       obtain⟨W,hW⟩:∃ W,(wr.drewN n).drewN nq=W:=⟨_,rfl⟩
       have hgW:Grew w W:=by rw [←hW];exact gDN (gDN hg _) _
       have hcW:W.cell? (ad.add i)=some (.int .i64 z):=by rw [←hW];exact hc0
       have hDW:Rd W W.heap.size (some ad1) (i64L d):=by rw [←hW];exact hD
       rw [hW]
       clear hW hD hown hc0 hr
       have hzW:=hgW.size
       have HTK:=hQ9 (show(i64L (d.take d.length)).length=d.length by rw [yB,List.length_take];omega)
       have HDK:=hQ9 (show(i64L (d.drop d.length)).length=d.length-d.length by rw [yB,List.length_drop])
       have HRT:=hQ9 (xT hDW d.length)
       have HRW:=hQ9 hDW
       clear hDW
       have HMA:=hQ9 (World.ownsRow_made (base:=W.heap.size) (e:=2) (size:=1) W #[] 0 (Nat.le_refl _) (by decide) rfl)
       have HMC:Hid (((W.alloc (.cells #[.int .i64 z] 2)).alloc (.cells #[] 2)).ownsRow W.heap.size 2 1 (.slice (some ⟨W.heap.size+1,0,none⟩) 0 0) 0 []):=hQ9 (by have:=World.ownsRow_made (base:=W.heap.size) (e:=2) (size:=1) (W.alloc (.cells #[.int .i64 z] 2)) #[] 0 (by simp) (by decide) rfl;rwa [World.size_alloc]at this)
       have hbz:(ad.add i).block<W.heap.size:=by rw [zL];omega
       have hkc:(d.length:Int)≤(d.length:Int):=by omega
       have hkc':d.length≤d.length:=by omega
       go_region_held3 (fun w'=>w'.cell? (ad.add i)=some (.int .i64 z)) (go_keep)
        (first
          | (refine zE (by rfl) _ _ _ (by rfl) W.heap.size 2 i0 _ 8 Tryz.underlying69 hi hz0 hz1 hz2 rfl (.slice (some ⟨W.heap.size,0,none⟩) 0 0) 0 [] (by rfl) (by exact HMA.out) W.heap.size (some ad1) d.length d.length (i64L (d.take d.length)) (by rfl) HTK.out (by exact HRT.out.alloc (Nat.le_refl _) _) (yk _) (by unfold maxLen;omega) (by omega) (by simp) ?_
             intro v5 w5 hown5 hgrow5 hat5
             simp only [Nat.zero_add,List.nil_append]at hown5
             obtain⟨A5,c5,rfl,hn5,_,hrd5⟩:=zv hown5
             have hg5:Grew W w5:=zO (by first | exact zu (gAL (Below.refl _ W) _) | exact zu (zu (gAL (Below.refl _ W) _))) hgrow5 (fun j hj=>by have h2:some W.heap.size=some j:=hj;injection h2 with h2;omega)
             have hz5A:=hg5.size
             have hq5:w5.cell? (ad.add i)=some (.int .i64 z):=(hg5.cell hbz).trans hcW)
          | (refine zE (by rfl) _ _ _ (by rfl) W.heap.size 2 i0 _ 8 Tryz.underlying69 hi hz0 hz1 hz2 rfl (.slice A5 d.length c5) d.length (i64L (d.take d.length)) (by rfl) (by exact(hown5.alloc _)) (w5.heap.size+1) (some ⟨w5.heap.size,0,none⟩) 1 1 [.int .i64 z] (by rfl) rfl (by exact zM w5 2 #[.int .i64 z] (0,0)) (zY _ _) (by unfold maxLen;omega) (by omega) (by have h5:=hz5A;first | (simp;done) | (simp;omega)) ?_
             intro v6 w6 hown6 hgrow6 hat6
             have hg6:Grew W w6:=zO (by first | exact gAL hg5 _ | exact zu (gAL hg5 _)) hgrow6 (zj hown5)
             have hq6:w6.cell? (ad.add i)=some (.int .i64 z):=(hg6.cell hbz).trans hcW
             clear hat5 hgrow5 hgrow6 hown5 hn5 hrd5 hg5 hz5A)
          | (refine zE (by rfl) _ _ _ (by rfl) W.heap.size 2 i0 _ 8 Tryz.underlying69 hi hz0 hz1 hz2 rfl (.slice (some ⟨W.heap.size,0,none⟩) 0 0) 0 [] (by rfl) (by exact(HMA.out.alloc _)) W.heap.size (some ad1) d.length d.length (i64L (d.take d.length)) (by rfl) HTK.out (by exact(HRT.out.alloc (Nat.le_refl _) _).alloc (by simp) _) (yk _) (by unfold maxLen;omega) (by omega) (by first | (simp;done) | (simp;omega)) ?_
             intro v5 w5 hown5 hgrow5 hat5
             simp only [Nat.zero_add,List.nil_append]at hown5
             obtain⟨A5,c5,rfl,hn5,_,hrd5⟩:=zv hown5
             have hg5:Grew W w5:=zO (by first | exact zu (gAL (gAL (Below.refl _ W) _) _) | exact zu (zu (gAL (gAL (Below.refl _ W) _) _))) hgrow5 (fun j hj=>by have h2:some W.heap.size=some j:=hj;injection h2 with h2;omega)
             have hq5:w5.cell? (ad.add i)=some (.int .i64 z):=(hg5.cell hbz).trans hcW
             have hz5B:w5.cell? ⟨W.heap.size+1,0,none⟩=some (.int .i64 z):=(hgrow5.cell_far ⟨W.heap.size+1,0,none⟩ (by first | (simp;done) | (simp;omega)) (fun h=>by have h2:some (W.heap.size+1)=some W.heap.size:=h;injection h2 with h2;omega)).trans (jc W _ z)
             have hz5l:W.heap.size+2≤w5.heap.size:=by have h5:=hgrow5.size;simp at h5;omega)
          | (refine zE (by rfl) _ _ _ (by rfl) W.heap.size 2 i0 _ 8 Tryz.underlying69 hi hz0 hz1 hz2 rfl (.slice A5 d.length c5) d.length (i64L (d.take d.length)) (by rfl) (by exact hown5) w5.heap.size (some ⟨W.heap.size+1,0,none⟩) 1 1 [.int .i64 z] (by rfl) rfl (xG hz5B (by omega)) (zY _ _) (by unfold maxLen;omega) (by omega) (by omega) ?_
             intro v6 w6 hown6 hgrow6 hat6
             have hg6:Grew W w6:=zO (by first | exact hg5 | exact zu hg5) hgrow6 (zj hown5)
             have hq6:w6.cell? (ad.add i)=some (.int .i64 z):=(hg6.cell hbz).trans hcW
             clear hat5 hgrow5 hgrow6 hown5 hn5 hrd5 hg5 hz5B hz5l)
          | (refine zE (by rfl) _ _ _ (by rfl) W.heap.size 2 i0 _ 8 Tryz.underlying69 hi hz0 hz1 hz2 rfl (.slice (some ⟨W.heap.size+1,0,none⟩) 0 0) 0 [] (by rfl) (by exact HMC.out) W.heap.size (some ad1) d.length d.length (i64L (d.take d.length)) (by rfl) HTK.out (by exact(HRT.out.alloc (Nat.le_refl _) _).alloc (by simp) _) (yk _) (by unfold maxLen;omega) (by omega) (by first | (simp;done) | (simp;omega)) ?_
             intro v5 w5 hown5 hgrow5 hat5
             simp only [Nat.zero_add,List.nil_append]at hown5
             obtain⟨A5,c5,rfl,hn5,_,hrd5⟩:=zv hown5
             have hg5:Grew W w5:=zO (by first | exact zu (gAL (gAL (Below.refl _ W) _) _) | exact zu (zu (gAL (gAL (Below.refl _ W) _) _))) hgrow5 (fun j hj=>by have h2:some (W.heap.size+1)=some j:=hj;injection h2 with h2;omega)
             have hq5:w5.cell? (ad.add i)=some (.int .i64 z):=(hg5.cell hbz).trans hcW
             have hz5C:w5.cell? ⟨W.heap.size,0,none⟩=some (.int .i64 z):=(hgrow5.cell_far ⟨W.heap.size,0,none⟩ (by first | (simp;done) | (simp;omega)) (fun h=>by have h2:some W.heap.size=some (W.heap.size+1):=h;injection h2 with h2;omega)).trans (jd W _ z)
             have hz5l:W.heap.size+2≤w5.heap.size:=by have h5:=hgrow5.size;simp at h5;omega)
          | (refine zE (by rfl) _ _ _ (by rfl) W.heap.size 2 i0 _ 8 Tryz.underlying69 hi hz0 hz1 hz2 rfl (.slice A5 d.length c5) d.length (i64L (d.take d.length)) (by rfl) (by exact hown5) w5.heap.size (some ⟨W.heap.size,0,none⟩) 1 1 [.int .i64 z] (by rfl) rfl (xG hz5C (by omega)) (zY _ _) (by unfold maxLen;omega) (by omega) (by omega) ?_
             intro v6 w6 hown6 hgrow6 hat6
             have hg6:Grew W w6:=zO (by first | exact hg5 | exact zu hg5) hgrow6 (zj hown5)
             have hq6:w6.cell? (ad.add i)=some (.int .i64 z):=(hg6.cell hbz).trans hcW
             clear hat5 hgrow5 hgrow6 hown5 hn5 hrd5 hg5 hz5C hz5l))
       all_goals
        obtain⟨A6,c6,rfl,hn6,_,hrd6⟩:=zv hown6
        have HDD:=hQ9 (show Rd w6 W.heap.size (some ad1) (i64L []) from Rd.nil_ _ _ _)
        have hz6:=hg6.size
        clear hat6
        go_wp2_with(at_builtin;refine zi rfl (.tmp 42) (.tmp 45) 69 rfl W.heap.size 2 i0 (.int .i64 0) 8 Tryz.underlying69 hi hz0 hz1 hz2 rfl (.slice A6 (d.length+1) c6) (d.length+1) (i64L (d.take d.length)++[.int .i64 z]) rfl hown6 W.heap.size (some ad1) 0 0 (i64L []) rfl rfl HDD.out (yk _) (by unfold maxLen;omega) (by omega) (by omega) ?_;intro v7 w7 hown7 hgrow7 hat7)
        go_roundw
        case rel=>exact⟨i+1,by omega,by go_num,by rw [HTS.out,HE.out,zgk d z,zgl d z];exact xy hown7 hzW,(zc hgW hg6).grown hgrow7 (by omega) (fun j hj=>Nat.le_trans hzW (zj hown6 j hj))⟩
        case measure=>simp [Go.RowKit.intOf];omega
      ·have hkl:k<dc:=by omega
       go_wp2_with fail
       go_quiet (fail)
       go_wp2_with fail
       obtain⟨W,hW⟩:∃ W,(wr.drewN n).drewN nq=W:=⟨_,rfl⟩
       have hgW:Grew w W:=by rw [←hW];exact gDN (gDN hg _) _
       have hcW:W.cell? (ad.add i)=some (.int .i64 z):=by rw [←hW];exact hc0
       have hDW:Rd W W.heap.size (some ad1) (i64L d):=by rw [←hW];exact hD
       rw [hW]
       clear hW hD hown hc0 hr
       have hzW:=hgW.size
       have HTK:=hQ9 (show(i64L (d.take k)).length=k by rw [yB,List.length_take];omega)
       have HDK:=hQ9 (show(i64L (d.drop k)).length=d.length-k by rw [yB,List.length_drop])
       have HRT:=hQ9 (xT hDW k)
       have HRW:=hQ9 hDW
       clear hDW
       have HMA:=hQ9 (World.ownsRow_made (base:=W.heap.size) (e:=2) (size:=1) W #[] 0 (Nat.le_refl _) (by decide) rfl)
       have HMC:Hid (((W.alloc (.cells #[.int .i64 z] 2)).alloc (.cells #[] 2)).ownsRow W.heap.size 2 1 (.slice (some ⟨W.heap.size+1,0,none⟩) 0 0) 0 []):=hQ9 (by have:=World.ownsRow_made (base:=W.heap.size) (e:=2) (size:=1) (W.alloc (.cells #[.int .i64 z] 2)) #[] 0 (by simp) (by decide) rfl;rwa [World.size_alloc]at this)
       have hbz:(ad.add i).block<W.heap.size:=by rw [zL];omega
       have hkc:(k:Int)≤(dc:Int):=by omega
       have hkc':k≤dc:=by omega
       go_region_held3 (fun w'=>w'.cell? (ad.add i)=some (.int .i64 z)) (go_keep)
        (first
          | (refine zE (by rfl) _ _ _ (by rfl) W.heap.size 2 i0 _ 8 Tryz.underlying69 hi hz0 hz1 hz2 rfl (.slice (some ⟨W.heap.size,0,none⟩) 0 0) 0 [] (by rfl) (by exact HMA.out) W.heap.size (some ad1) k dc (i64L (d.take k)) (by rfl) HTK.out (by exact HRT.out.alloc (Nat.le_refl _) _) (yk _) (by unfold maxLen;omega) (by omega) (by simp) ?_
             intro v5 w5 hown5 hgrow5 hat5
             simp only [Nat.zero_add,List.nil_append]at hown5
             obtain⟨A5,c5,rfl,hn5,_,hrd5⟩:=zv hown5
             have hg5:Grew W w5:=zO (by first | exact zu (gAL (Below.refl _ W) _) | exact zu (zu (gAL (Below.refl _ W) _))) hgrow5 (fun j hj=>by have h2:some W.heap.size=some j:=hj;injection h2 with h2;omega)
             have hz5A:=hg5.size
             have hq5:w5.cell? (ad.add i)=some (.int .i64 z):=(hg5.cell hbz).trans hcW)
          | (refine zE (by rfl) _ _ _ (by rfl) W.heap.size 2 i0 _ 8 Tryz.underlying69 hi hz0 hz1 hz2 rfl (.slice A5 k c5) k (i64L (d.take k)) (by rfl) (by exact(hown5.alloc _)) (w5.heap.size+1) (some ⟨w5.heap.size,0,none⟩) 1 1 [.int .i64 z] (by rfl) rfl (by exact zM w5 2 #[.int .i64 z] (0,0)) (zY _ _) (by unfold maxLen;omega) (by omega) (by have h5:=hz5A;first | (simp;done) | (simp;omega)) ?_
             intro v6 w6 hown6 hgrow6 hat6
             have hg6:Grew W w6:=zO (by first | exact gAL hg5 _ | exact zu (gAL hg5 _)) hgrow6 (zj hown5)
             have hq6:w6.cell? (ad.add i)=some (.int .i64 z):=(hg6.cell hbz).trans hcW
             clear hat5 hgrow5 hgrow6 hown5 hn5 hrd5 hg5 hz5A)
          | (refine zE (by rfl) _ _ _ (by rfl) W.heap.size 2 i0 _ 8 Tryz.underlying69 hi hz0 hz1 hz2 rfl (.slice (some ⟨W.heap.size,0,none⟩) 0 0) 0 [] (by rfl) (by exact(HMA.out.alloc _)) W.heap.size (some ad1) k dc (i64L (d.take k)) (by rfl) HTK.out (by exact(HRT.out.alloc (Nat.le_refl _) _).alloc (by simp) _) (yk _) (by unfold maxLen;omega) (by omega) (by first | (simp;done) | (simp;omega)) ?_
             intro v5 w5 hown5 hgrow5 hat5
             simp only [Nat.zero_add,List.nil_append]at hown5
             obtain⟨A5,c5,rfl,hn5,_,hrd5⟩:=zv hown5
             have hg5:Grew W w5:=zO (by first | exact zu (gAL (gAL (Below.refl _ W) _) _) | exact zu (zu (gAL (gAL (Below.refl _ W) _) _))) hgrow5 (fun j hj=>by have h2:some W.heap.size=some j:=hj;injection h2 with h2;omega)
             have hq5:w5.cell? (ad.add i)=some (.int .i64 z):=(hg5.cell hbz).trans hcW
             have hz5B:w5.cell? ⟨W.heap.size+1,0,none⟩=some (.int .i64 z):=(hgrow5.cell_far ⟨W.heap.size+1,0,none⟩ (by first | (simp;done) | (simp;omega)) (fun h=>by have h2:some (W.heap.size+1)=some W.heap.size:=h;injection h2 with h2;omega)).trans (jc W _ z)
             have hz5l:W.heap.size+2≤w5.heap.size:=by have h5:=hgrow5.size;simp at h5;omega)
          | (refine zE (by rfl) _ _ _ (by rfl) W.heap.size 2 i0 _ 8 Tryz.underlying69 hi hz0 hz1 hz2 rfl (.slice A5 k c5) k (i64L (d.take k)) (by rfl) (by exact hown5) w5.heap.size (some ⟨W.heap.size+1,0,none⟩) 1 1 [.int .i64 z] (by rfl) rfl (xG hz5B (by omega)) (zY _ _) (by unfold maxLen;omega) (by omega) (by omega) ?_
             intro v6 w6 hown6 hgrow6 hat6
             have hg6:Grew W w6:=zO (by first | exact hg5 | exact zu hg5) hgrow6 (zj hown5)
             have hq6:w6.cell? (ad.add i)=some (.int .i64 z):=(hg6.cell hbz).trans hcW
             clear hat5 hgrow5 hgrow6 hown5 hn5 hrd5 hg5 hz5B hz5l)
          | (refine zE (by rfl) _ _ _ (by rfl) W.heap.size 2 i0 _ 8 Tryz.underlying69 hi hz0 hz1 hz2 rfl (.slice (some ⟨W.heap.size+1,0,none⟩) 0 0) 0 [] (by rfl) (by exact HMC.out) W.heap.size (some ad1) k dc (i64L (d.take k)) (by rfl) HTK.out (by exact(HRT.out.alloc (Nat.le_refl _) _).alloc (by simp) _) (yk _) (by unfold maxLen;omega) (by omega) (by first | (simp;done) | (simp;omega)) ?_
             intro v5 w5 hown5 hgrow5 hat5
             simp only [Nat.zero_add,List.nil_append]at hown5
             obtain⟨A5,c5,rfl,hn5,_,hrd5⟩:=zv hown5
             have hg5:Grew W w5:=zO (by first | exact zu (gAL (gAL (Below.refl _ W) _) _) | exact zu (zu (gAL (gAL (Below.refl _ W) _) _))) hgrow5 (fun j hj=>by have h2:some (W.heap.size+1)=some j:=hj;injection h2 with h2;omega)
             have hq5:w5.cell? (ad.add i)=some (.int .i64 z):=(hg5.cell hbz).trans hcW
             have hz5C:w5.cell? ⟨W.heap.size,0,none⟩=some (.int .i64 z):=(hgrow5.cell_far ⟨W.heap.size,0,none⟩ (by first | (simp;done) | (simp;omega)) (fun h=>by have h2:some W.heap.size=some (W.heap.size+1):=h;injection h2 with h2;omega)).trans (jd W _ z)
             have hz5l:W.heap.size+2≤w5.heap.size:=by have h5:=hgrow5.size;simp at h5;omega)
          | (refine zE (by rfl) _ _ _ (by rfl) W.heap.size 2 i0 _ 8 Tryz.underlying69 hi hz0 hz1 hz2 rfl (.slice A5 k c5) k (i64L (d.take k)) (by rfl) (by exact hown5) w5.heap.size (some ⟨W.heap.size,0,none⟩) 1 1 [.int .i64 z] (by rfl) rfl (xG hz5C (by omega)) (zY _ _) (by unfold maxLen;omega) (by omega) (by omega) ?_
             intro v6 w6 hown6 hgrow6 hat6
             have hg6:Grew W w6:=zO (by first | exact hg5 | exact zu hg5) hgrow6 (zj hown5)
             have hq6:w6.cell? (ad.add i)=some (.int .i64 z):=(hg6.cell hbz).trans hcW
             clear hat5 hgrow5 hgrow6 hown5 hn5 hrd5 hg5 hz5C hz5l))
       all_goals
        obtain⟨A6,c6,rfl,hn6,_,hrd6⟩:=zv hown6
        have HDD:=hQ9 (show Rd w6 W.heap.size (some (ad1.add k)) (i64L (d.drop k)) from qN (HRW.out.below hg6) k)
        have hz6:=hg6.size
        clear hat6
        go_wp2_with(at_builtin;refine zi rfl (.tmp 42) (.tmp 45) 69 rfl W.heap.size 2 i0 (.int .i64 0) 8 Tryz.underlying69 hi hz0 hz1 hz2 rfl (.slice A6 (k+1) c6) (k+1) (i64L (d.take k)++[.int .i64 z]) rfl hown6 W.heap.size (some (ad1.add k)) (d.length-k) (dc-k) (i64L (d.drop k)) rfl HDK.out HDD.out (yk _) (by unfold maxLen;omega) (by omega) (by omega) ?_;intro v7 w7 hown7 hgrow7 hat7)
        go_roundw
        case rel=>exact⟨i+1,by omega,by go_num,by rw [HTS.out,HE.out,zgj d k z (by omega),zix d k z];exact xy hown7 hzW,(zc hgW hg6).grown hgrow7 (by omega) (fun j hj=>Nat.le_trans hzW (zj hown6 j hj))⟩
        case measure=>simp [Go.RowKit.intOf];omega
  ·obtain rfl:i=l.length:=by omega
   rw [List.take_length]at hown
   go_wp2_with fail
   go_ret
   exact⟨_,rfl,hown,hg⟩
end Go.Proofs.YtpppegnojmnicaaGreatDoor
