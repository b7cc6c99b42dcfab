/- Contracts of package merkle: pairs. -/
import Derived.Test.YtidjnnnigcmdpaaGreatDoorJzz
import Derived.StillTailTactics
import Derived.Deep.RegionHeld3
import Derived.Deep.AppendLies
import Derived.IntWalk
import Derived.OwnWalk
import Derived.Test.YtidjnnnigcmdpaaGreatDoorJah
import Derived.Test.YtidjnnnigcmdpaaGreatDoorJay
import Derived.Outline
import Derived.Test.YtidjnnnigcmdpaaGreatDoorJan
import Derived.Test.YtidjnnnigcmdpaaGreatDoorJae
import Derived.Laws.BitsAllLaws
import Derived.Laws.BitsLemmas
import Derived.Deep.QuietTactic
import Derived.BigQuiet
set_option maxHeartbeats 1600000
set_option maxRecDepth 100000
set_option linter.unusedSimpArgs false
set_option linter.unusedVariables false
set_option linter.unnecessarySimpa false
namespace Go.Proofs.YtidjnnnigcmdpaaGreatDoor
open Go.RowKit
noncomputable def upL:List Nat→List Nat
 | a::b::l=>twoN tagMt a b::upL l
 | _=>[]
theorem zU (l:List Nat):(upL l).length=l.length / 2:=by
 induction l using upL.induct with
 | case1 a b l ih=>simp only [upL,List.length_cons,ih];omega
 | case2 l h =>
  match l,h with
  | [],_=>rfl
  | [a],_=>simp [upL]
  | a::b::l,h=>exact absurd rfl (h a b l)
theorem q8 (l:List Nat):∀(k:Nat) (h:k<(upL l).length),(upL l)[k]=twoN tagMt (l[2*k]'(by rw [zU]at h;omega)) (l[2*k+1]'(by rw [zU]at h;omega)):=by
 induction l using upL.induct with
 | case1 a b l ih =>
  intro k h
  match k with
  | 0=>rfl
  | k+1 =>
   have:=ih k (by simp only [upL,List.length_cons]at h;omega)
   simp only [upL,List.getElem_cons_succ,this]
   simp [show 2*(k+1)=2*k+1+1 by omega]
 | case2 l hh =>
  intro k h
  match l,hh with
  | [],_=>exact absurd h (by simp [upL])
  | [a],_=>exact absurd h (by simp [upL])
  | a::b::l,hh=>exact absurd rfl (hh a b l)
theorem qL (l:List Nat):∀ n∈upL l,n<18446744073709551616:=by
 intro n hn
 obtain⟨k,hk,rfl⟩:=List.getElem_of_mem hn
 rw [q8]
 exact xe _ _ _
def u64L (l:List Nat):List Value:=l.map fun n=>.int .u64 (n:Nat)
theorem jC (l:List Nat):(u64L l).length=l.length:=by simp [u64L]
theorem zh5 (l:List Nat) (k:Nat) (h:k<(u64L l).length):(u64L l)[k]=.int .u64 ((l[k]'(by simpa [u64L]using h):Nat):Int):=by simp [u64L]
theorem yx {w:World} {B:Nat} {A:Option Addr} {l:List Nat} (h:Rd w B A (u64L l)) (k:Nat) (hk:k<l.length):∃ ad,A=some ad∧ad.block<B∧w.cell? (ad.add k)=some (.int .u64 ((l[k]:Nat):Int)):=by
 obtain⟨ad,h1,h2,h3⟩:=h k (by rw [jC];exact hk)
 exact⟨ad,h1,h2,by rw [h3,zh5]⟩
def RetU (w:World) (l:List Nat) (e:Ending) (w':World):Prop:=∃ A c,e=.returned (.slice A l.length c)∧Rd w' w'.heap.size A (u64L l)∧(∀ ad,A=some ad→w.heap.size≤ad.block)∧Grew w w'
theorem infoD:(Tryz.prog.info? 35).map (fun i=>(i.zero,i.size,i.bytes))=some (some (.int .u64 0),1,8):=by kernel_rfl
theorem zax (A:Option Addr) (c B:Nat) (l:List Nat) (hl:l.length≤1048576) (hb:∀ n∈l,n<18446744073709551616) (w:World) (hr:Rd w B A (u64L l)) (hB:B≤w.heap.size) :
 Calls Tryz.prog 211 #[.slice A l.length c,.func (.func 212) #[] #[]] w (RetU w (upL l)):=by
 obtain⟨i0,hi,hz0,hz1,hz2⟩:=info_parts infoD
 have hul:=zU l
 go_enter Tryz.func211,Tryz.ntmps211
 go_wp2_with(refine wpList_make_own _ rfl _ _ 47 rfl w.heap.size 35 i0 _ 1 Tryz.underlying47 hi hz0 hz1 _ _ _ (l.length / 2) rfl rfl (by omega) (by rw [hz2];omega) (by unfold maxLen;omega) (Nat.le_refl _) ?_)
 intro w1 hown hgr
 have hb1:Grew w w1:=(Below.refl _ _).grown hgr (Nat.le_refl _) (by intro g hg;cases hg)
 go_wp2_with fail
 go_loopw [5,6] (fun v i wr=>∃(k:Nat) (vv:Value),vv=v∧k≤l.length / 2∧i=.int .i64 ((2*k+1:Nat):Int)∧wr.ownsRow w.heap.size 35 1 v k (u64L ((upL l).take k))∧Grew w wr) (fun _ i _=>1048578-(intOf i).toNat)
 case atStart=>exact⟨0,_,rfl,Nat.zero_le _,rfl,hown,hb1⟩
 case round =>
  clear hown hgr hb1
  obtain⟨k,v,hv,hk,rfl,hown,hb1⟩:=hrel
  subst hv
  by_cases hlt:k<l.length / 2
  ·have hin:((2*k+1:Nat):Int)<(l.length:Int):=by omega
   have hr1:=(hr.more hB).below hb1
   obtain⟨ad,rfl,hbl,hc0⟩:=yx hr1 (2*k) (by omega)
   obtain⟨ad2,had,hbl2,hc1⟩:=yx hr1 (2*k+1) (by omega)
   obtain rfl:=Option.some.inj had
   have hx:=hb l[2*k] (List.getElem_mem _)
   have hy:=hb l[2*k+1] (List.getElem_mem _)
   have C:=fun W=>jQ (l[2*k]:Nat) (l[2*k+1]:Nat) (zE hx) (zE hy) W
   rw [Int.toNat_natCast,Int.toNat_natCast]at C
   have hat:(upL l).take (k+1)=(upL l).take k++[twoN tagMt l[2*k] l[2*k+1]]:=by
    rw [List.take_succ_eq_append_getElem (by omega),q8]
   have HA:=hQ9 hat
   have C2:=hQ9 C
   clear hat C
   generalize l[2*k]=x at *
   generalize l[2*k+1]=y at *
   generalize twoN tagMt x y=z at *
   have hnb:v.ownBlock≠some ad.block:=fun e=>by have:=zA hown _ e;omega
   have hzs:=hb1.size
   obtain⟨i,hidef⟩:∃ i:Int,((2*k+1:Nat):Int)=i:=⟨_,rfl⟩
   rw [hidef]
   have i1:IntKind.i64.wrap (i-1)=i-1:=IntWalk.i64_in _ (by omega)
   have i2:(0:Int)≤i-1:=by omega
   have i2':(1:Int)≤i:=by omega
   have i3:i-1<(l.length:Int):=by omega
   have i4:(0:Int)≤i:=by omega
   have i5:i<(l.length:Int):=by omega
   have i6:(i-1).toNat=2*k:=by omega
   have i7:i.toNat=2*k+1:=by omega
   obtain⟨j0,hj0⟩:∃ j:Nat,2*k=j:=⟨_,rfl⟩
   obtain⟨j1,hj1⟩:∃ j:Nat,2*k+1=j:=⟨_,rfl⟩
   rw [hj0]at hc0 i6
   rw [hj1]at hc1 i7
   have HI:=hQ9 hidef
   clear hj0 hj1
   clear hidef hin
   go_wp2_with fail
   go_region_held3 (fun w'=>w'.cell? (ad.add j0)=some (.int .u64 (x:Int))∧w'.cell? (ad.add j1)=some (.int .u64 (y:Int)))
    (first
      | go_keep
      | (go_split_ands
         refine⟨?_,?_⟩
         ·(rw [hgrow.cell_far _ (by rw [zv];simp;omega) (by rw [zv];exact Ne.symm hnb)];assumption)
         ·(rw [hgrow.cell_far _ (by rw [zv];simp;omega) (by rw [zv];exact Ne.symm hnb)];assumption)))
    (first
      | (go_at_call 212;refine(C2.out _).mono ?_;rintro e w' ⟨rfl,rfl⟩)
      | (refine step_append_lies _ (by rfl) _ _ _ (by rfl) w.heap.size 35 i0 _ 1 8 Tryz.underlying47 hi hz0 hz1 hz2 rfl (by omega) v k (u64L ((upL l).take k)) (by rfl) ((hown.alloc _).drew)
          ⟨wr.heap.size,0,none⟩ 1 1 [.int .u64 (z:Int)] (by rfl) (by rfl) (World.news_of_block (cs:=#[.int .u64 (z:Int)]) (t:=35) (fr:=(0,0)) (heap_alloc_new wr _)) (by simp [Value.oneCell'])
          (by omega) (by unfold maxLen;omega) (by omega) (by simp;omega) (wr.heap.size+1) (by simp) ?_;intro gg cap w2 hown2 hgrow hat hlt2))
   go_wp2_with fail
   go_roundw
   case rel =>
    refine⟨k+1,_,rfl,by omega,?_,?_,?_⟩
    ·have:=HI.out
     congr 1;omega
    ·rw [HA.out,show u64L ((upL l).take k++[z])=u64L ((upL l).take k)++[.int .u64 (z:Int)] by simp [u64L]]
     exact hown2
    ·exact((hb1.alloc hzs _).drew).grown hgrow (by simp;omega) (fun g hg=>zA hown _ hg)
   case measure=>simp [intOf];omega
  ·obtain rfl:k=l.length / 2:=by omega
   obtain⟨A',c',rfl,hn1,hn2,hrd⟩:=yN hown
   have hfr:∀ ad,A'=some ad→w.heap.size≤ad.block:=fun ad h=>by subst h;exact zA hown _ rfl
   have HF:=hQ9 hfr
   clear hfr
   rw [←hul]at hrd ⊢
   rw [List.take_length]at hrd
   go_wp2_with fail
   go_ret
   exact⟨A',c',rfl,hrd,HF.out,hb1⟩
theorem infoU:(Tryz.prog.info? 25).map (fun i=>(i.zero,i.size,i.bytes))=some (some (.int .u64 0),1,8):=by kernel_rfl
noncomputable def rootF:Nat→List Nat→Nat
 | 0,l=>l.headD 0
 | n+1,l=>if l.length≤1 then l.headD 0 else rootF n (upL l)
noncomputable def pathF:Nat→List Nat→Nat→List Nat
 | 0,_,_=>[]
 | n+1,l,i=>if l.length≤1 then [] else l.getD (i ^^^ 1) 0::pathF n (upL l) (i / 2)
noncomputable def rootN (l:List Nat):Nat:=rootF 9 l
noncomputable def pathN (l:List Nat) (i:Nat):List Nat:=pathF 9 l i
noncomputable def climbN (x:Nat) (i:Nat):List Nat→Nat
 | []=>x
 | p::ps=>climbN (if i%2=0 then twoN tagMt x p else twoN tagMt p x) (i / 2) ps
theorem jv:∀ n:Fin 257,leavesOk n.val=true→n.val≠1→leavesOk (n.val / 2)=true∧n.val%2=0:=by decide +kernel
theorem kI (n:Nat) (h:leavesOk n=true) (h1:n≠1):leavesOk (n / 2)=true∧n%2=0:=jv ⟨n,by have:=xg n h;omega⟩ h h1
theorem zel (n:Nat) (l:List Nat) (h:1<l.length):rootF (n+1) l=rootF n (upL l):=by
 rw [rootF,if_neg (by omega)]
theorem zf7 (n:Nat) (x:Nat):rootF n [x]=x:=by
 cases n with
 | zero=>rfl
 | succ n=>rw [rootF,if_pos (by simp)];rfl
theorem qM (n m:Nat) (l:List Nat) (hn:l.length≤2^n) (hm:l.length≤2^m):rootF n l=rootF m l:=by
 induction n generalizing m l with
 | zero =>
  cases m with
  | zero=>rfl
  | succ m =>
   rw [rootF,rootF,if_pos (by simpa using hn)]
 | succ n ih =>
  cases m with
  | zero=>rw [rootF,rootF,if_pos (by simpa using hm)]
  | succ m =>
   rw [rootF,rootF]
   by_cases h:l.length≤1
   ·rw [if_pos h,if_pos h]
   ·rw [if_neg h,if_neg h]
    apply ih
    ·rw [zU];rw [Nat.pow_succ]at hn;omega
    ·rw [zU];rw [Nat.pow_succ]at hm;omega
theorem zem (l:List Nat) (h:1<l.length) (h2:l.length≤256):rootN l=rootN (upL l):=by
 unfold rootN
 rw [zel 8 l h]
 exact qM 8 9 _ (by rw [zU];omega) (by rw [zU];omega)
theorem zf8 (x:Nat):rootN [x]=x:=zf7 9 x
theorem qN (n m:Nat) (l:List Nat) (i:Nat) (hn:l.length≤2^n) (hm:l.length≤2^m):pathF n l i=pathF m l i:=by
 induction n generalizing m l i with
 | zero =>
  cases m with
  | zero=>rfl
  | succ m =>
   rw [pathF,pathF,if_pos (by simpa using hn)]
 | succ n ih =>
  cases m with
  | zero=>rw [pathF,pathF,if_pos (by simpa using hm)]
  | succ m =>
   rw [pathF,pathF]
   by_cases h:l.length≤1
   ·rw [if_pos h,if_pos h]
   ·rw [if_neg h,if_neg h,ih m (upL l) (i / 2)]
    ·rw [zU];rw [Nat.pow_succ]at hn;omega
    ·rw [zU];rw [Nat.pow_succ]at hm;omega
theorem zen (l:List Nat) (i:Nat) (h:1<l.length) (h2:l.length≤256):pathN l i=l.getD (i ^^^ 1) 0::pathN (upL l) (i / 2):=by
 unfold pathN
 rw [pathF,if_neg (by omega),qN 8 9 _ _ (by rw [zU];omega) (by rw [zU];omega)]
theorem zf9 (x i:Nat):pathN [x] i=[]:=by
 unfold pathN
 rw [pathF,if_pos (by simp)]
theorem zcz:∀ i:Fin 256,(i.val ^^^ 1) / 2=i.val / 2:=by decide +kernel
theorem zeo (i n:Nat) (h:i<n) (hn:n≤256) (he:n%2=0):i ^^^ 1<n:=by
 have:=zcz ⟨i,by omega⟩
 simp only at this
 omega
theorem zh6 (l:List Nat) (h:∀ n∈l,n<18446744073709551616):rootN l<18446744073709551616:=by
 unfold rootN
 have key:∀(m:Nat) (l:List Nat),(∀ n∈l,n<18446744073709551616)→rootF m l<18446744073709551616:=by
  intro n
  induction n with
  | zero =>
   intro l h
   rw [rootF]
   cases l with
   | nil=>simp
   | cons a l=>exact h a List.mem_cons_self
  | succ n ih =>
   intro l h
   rw [rootF]
   split
   ·cases l with
    | nil=>simp
    | cons a l=>exact h a List.mem_cons_self
   ·exact ih _ (qL l)
 exact key 9 l h
theorem jW (l:List Nat) (i:Nat) (h:∀ n∈l,n<18446744073709551616):∀ n∈pathN l i,n<18446744073709551616:=by
 unfold pathN
 have key:∀(m:Nat) (l:List Nat) (i:Nat),(∀ n∈l,n<18446744073709551616)→∀ n∈pathF m l i,n<18446744073709551616:=by
  intro n
  induction n with
  | zero =>
   intro l i h x hx
   rw [pathF]at hx
   cases hx
  | succ n ih =>
   intro l i h x hx
   rw [pathF]at hx
   split at hx
   ·cases hx
   ·rcases List.mem_cons.1 hx with rfl | hx
    ·rw [List.getD_eq_getElem?_getD]
     cases hg:l[i ^^^ 1]? with
     | none=>simp
     | some y=>exact h y (List.mem_of_getElem? hg)
    ·exact ih _ _ (qL l) x hx
 exact key 9 l i h
theorem zay (ps:List Nat):∀(x i:Nat),x<18446744073709551616→climbN x i ps<18446744073709551616:=by
 induction ps with
 | nil=>intro x i h;exact h
 | cons p ps ih =>
  intro x i h
  rw [climbN]
  apply ih
  split<;>exact xe _ _ _
theorem jD (ps:List Nat):∀(x i k:Nat) (h:k<ps.length),climbN x i (ps.take (k+1))=if i / 2^k%2=0 then twoN tagMt (climbN x i (ps.take k)) ps[k] else twoN tagMt ps[k] (climbN x i (ps.take k)):=by
 induction ps with
 | nil=>intro x i k h;exact absurd h (by simp)
 | cons p ps ih =>
  intro x i k h
  match k with
  | 0=>simp [climbN]
  | k+1 =>
   rw [List.take_succ_cons,climbN,ih _ _ k (by simpa using h),List.take_succ_cons,climbN]
   simp only [List.getElem_cons_succ]
   rw [show i / 2 / 2^k=i / 2^(k+1) by rw [Nat.div_div_eq_div_mul,Nat.pow_succ];congr 1;omega]
theorem jX (m:Nat):2*m ^^^ 1=2*m+1:=by
 apply Nat.eq_of_testBit_eq
 intro j
 cases j with
 | zero=>simp
 | succ j =>
  rw [Nat.testBit_succ,Nat.testBit_succ,Nat.xor_div_two,show 2*m / 2=m by omega,show(2*m+1) / 2=m by omega]
  simp
theorem zke (m:Nat):(2*m+1) ^^^ 1=2*m+1-1:=by
 rw [←jX,Nat.xor_assoc,Nat.xor_self,Nat.xor_zero,jX];rfl
theorem xH (l:List Nat) (i:Nat) (h:i<l.length):l.getD i 0=l[i]:=by simp [h]
theorem zep (n:Nat):∀(l:List Nat) (i:Nat),l.length=2^n→i<l.length→climbN (l.getD i 0) i (pathF n l i)=rootF n l∧(pathF n l i).length=n:=by
 induction n with
 | zero =>
  intro l i h hi
  match l,h with
  | [x],_ =>
   obtain rfl:i=0:=by simpa using hi
   exact⟨rfl,rfl⟩
 | succ n ih =>
  intro l i h hi
  have hl2:¬l.length≤1:=by have:=Nat.two_pow_pos n;rw [Nat.pow_succ]at h;omega
  rw [pathF,if_neg hl2,rootF,if_neg hl2,climbN]
  have hul:(upL l).length=2^n:=by rw [zU,h,Nat.pow_succ];omega
  have hi2:i / 2<(upL l).length:=by rw [hul];rw [Nat.pow_succ]at h;omega
  obtain⟨h1,h2⟩:=ih (upL l) (i / 2) hul hi2
  refine⟨?_,by rw [List.length_cons,h2]⟩
  rw [←h1]
  congr 1
  have hg:=q8 l (i / 2) hi2
  rw [xH _ _ hi2,hg]
  have hev:l.length%2=0:=by rw [h,Nat.pow_succ];omega
  by_cases he:i%2=0
  ·rw [if_pos he]
   have e1:i ^^^ 1=i+1:=by
    obtain⟨m,rfl⟩:∃ m,i=2*m:=⟨i / 2,by omega⟩
    exact jX m
   rw [e1,xH _ _ hi,xH _ _ (by omega)]
   congr 1
   ·congr 1;omega
   ·congr 1;omega
  ·rw [if_neg he]
   have e1:i ^^^ 1=i-1:=by
    obtain⟨m,rfl⟩:∃ m,i=2*m+1:=⟨i / 2,by omega⟩
    exact zke m
   rw [e1,xH _ _ (by omega),xH _ _ hi]
   congr 1
   ·congr 1;omega
   ·congr 1;omega
def lenOf:Value→Nat
 | .slice _ n _=>n
 | _=>0
theorem zh7 {w:World} {B:Nat} {A:Option Addr} {x:Nat} (h:Rd w B A (u64L [x])):∃ ad,A=some ad∧ad.block<B∧w.cell? ad=some (.int .u64 (x:Int)):=by
 obtain⟨ad,h1,h2,h3⟩:=yx h 0 (by simp)
 exact⟨ad,h1,h2,by simpa [Addr.add]using h3⟩
theorem zkf (A:Option Addr) (c B:Nat) (l:List Nat) (hl:l.length≤1048576) (hk:leavesOk l.length=true) (hb:∀ n∈l,n<18446744073709551616) (w:World) (hr:Rd w B A (u64L l)) (hB:B≤w.heap.size) :
 Calls Tryz.prog 160 #[.slice A l.length c] w fun e w'=>e=.returned (.tuple #[.int .u64 (rootN l:Nat),.int .i64 0])∧Grew w w':=by
 have C:=hQ9 (fun W=>zau l.length (by omega) W)
 rw [hk]at C
 have HK:=hQ9 hk
 have HB:=hQ9 hb
 clear hk hb
 go_enter Tryz.func160,Tryz.ntmps160
 go_wp2_with fail
 refine(C.out _).mono ?_
 rintro e w' ⟨rfl,rfl⟩
 go_wp2_with fail
 go_loopw [0] (fun v wr=>∃(A':Option Addr) (c':Nat) (cur:List Nat),v=.slice A' cur.length c'∧cur.length≤1048576∧Rd wr wr.heap.size A' (u64L cur)∧Hid (leavesOk cur.length=true)∧Hid (∀ n∈cur,n<18446744073709551616)∧Hid (rootN cur=rootN l)∧Grew w wr) (fun v _=>lenOf v)
 case atStart=>exact⟨A,c,l,rfl,hl,hr.more hB,HK,HB,hQ9 rfl,Below.refl _ _⟩
 case round =>
  clear hr hl
  obtain⟨A',c',cur,rfl,hl,hr,HK2,HB2,HR2,hb1⟩:=hrel
  have hle:=xg _ HK2.out
  by_cases h1:1<cur.length
  ·have h1':(1:Int)<(cur.length:Int):=by omega
   go_wp2_with fail
   refine(zax A' c' wr.heap.size cur hl HB2.out _ hr (Nat.le_refl _)).mono ?_
   rintro e w2 ⟨A2,c2,rfl,hr2,_,hb2⟩
   go_wp2_with fail
   have hul:=zU cur
   go_roundw
   case rel=>exact⟨A2,c2,upL cur,rfl,by omega,hr2,hQ9 (by rw [hul];exact(kI _ HK2.out (by omega)).1),hQ9 (qL cur),hQ9 (by rw [←HR2.out];exact(zem cur h1 (by omega)).symm),ze hb1 hb2⟩
   case measure=>simp [lenOf];omega
  ·obtain⟨x,rfl⟩:∃ x,cur=[x]:=by
    match cur,h1,hle with
    | [x],_,_=>exact⟨x,rfl⟩
    | x::y::l,h1,_=>exact absurd (by simp) h1
   obtain⟨ad,rfl,hbl,hc⟩:=zh7 hr
   have HX:=hQ9 (show rootN l=x by rw [←HR2.out,zf8])
   go_wp2_with fail
   go_ret2
   exact⟨by rw [HX.out];rfl,hb1⟩
def RetP (w:World) (l:List Nat) (e:Ending) (w':World):Prop:=∃ A c,e=.returned (.tuple #[.slice A l.length c,.int .i64 0])∧Rd w' w'.heap.size A (u64L l)∧(∀ ad,A=some ad→w.heap.size≤ad.block)∧Grew w w'
theorem zc0:∀ j:Fin 256,bits .xor .i64 ((j.val:Nat):Int) 1=((j.val ^^^ 1:Nat):Int):=by decide +kernel
theorem zkg (j:Nat) (h:j<256):bits .xor .i64 (j:Int) 1=((j ^^^ 1:Nat):Int):=zc0 ⟨j,h⟩
theorem zc1 {w w':World} (h:Grew w w'):w.grownBy w' none:=⟨h.os,h.tape,h.output,h.size,fun i hi _=>h.block i hi⟩
theorem zkh (A:Option Addr) (c B:Nat) (l:List Nat) (i:Nat) (hi:i<l.length) (hl:l.length≤1048576) (hk:leavesOk l.length=true) (hb:∀ n∈l,n<18446744073709551616) (w:World) (hr:Rd w B A (u64L l)) (hB:B≤w.heap.size) :
 Calls Tryz.prog 162 #[.slice A l.length c,.int .i64 i] w (RetP w (pathN l i)):=by
 obtain⟨i0,hi0,hz0,hz1,hz2⟩:=info_parts infoD
 have C:=hQ9 (fun W=>zau l.length (by omega) W)
 rw [hk]at C
 have HK:=hQ9 hk
 have HB:=hQ9 hb
 have hle:=xg _ hk
 have hAB:∀ ad,A=some ad→ad.block<w.heap.size:=by
  intro ad had
  obtain⟨ad',h1,h2,_⟩:=yx hr 0 (by omega)
  rw [had]at h1
  injection h1 with h1
  subst h1
  omega
 have HAB:=hQ9 hAB
 have hi':(i:Int)<(l.length:Int):=by omega
 have hi'':¬(l.length:Int)≤(i:Int):=by omega
 have hd1:decide (l.length≤i)=false:=by simpa using hi
 have hd2:decide ((l.length:Int)≤(i:Int))=false:=by simpa using hi
 clear hk hb hAB
 go_enter Tryz.func162,Tryz.ntmps162
 go_wp2_with fail
 refine(C.out _).mono ?_
 rintro e w' ⟨rfl,rfl⟩
 go_wp2_with fail
 go_loopw [0,1,7] (fun v iv pv wr=>∃(A':Option Addr) (c':Nat) (cur:List Nat) (j:Nat) (done:List Nat) (p:Value),p=pv∧v=.slice A' cur.length c'∧iv=.int .i64 j∧j<cur.length∧cur.length≤256∧done.length≤256-cur.length∧Rd wr wr.heap.size A' (u64L cur)∧Hid (leavesOk cur.length=true)∧Hid (∀ n∈cur,n<18446744073709551616)∧Hid (done++pathN cur j=pathN l i) ∧
  wr.ownsRow w.heap.size 35 1 p done.length (u64L done)∧Hid (∀ ad,A'=some ad→p.ownBlock≠some ad.block)∧Grew w wr) (fun v _ _ _=>lenOf v)
 case atStart=>exact⟨A,c,l,i,[],_,rfl,rfl,rfl,hi,hle.2,by simp,hr.more hB,HK,HB,hQ9 (by simp),World.ownsRow_nil _ _ _ _,hQ9 (fun ad _ h=>by cases h),Below.refl _ _⟩
 case round =>
  clear hr hl hi' hi'' hle hi hd1 hd2
  obtain⟨A',c',cur,j,done,p,hp,rfl,rfl,hj,hl,hdl,hr,HK2,HB2,HR2,hown,HO,hb1⟩:=hrel
  subst hp
  have hle:=xg _ HK2.out
  by_cases h1:1<cur.length
  ·have h1':(1:Int)<(cur.length:Int):=by omega
   have hzs:=hb1.size
   have hev:=kI _ HK2.out (by omega)
   have hxl:=zeo j cur.length hj (by omega) hev.2
   have HX:=hQ9 (zkg j (by omega))
   obtain⟨x,hx⟩:∃ x,j ^^^ 1=x:=⟨_,rfl⟩
   rw [hx]at HX hxl
   obtain⟨ad,rfl,hbl,hc⟩:=yx hr x hxl
   have HS:=hQ9 (zen cur j h1 hl)
   rw [hx,xH _ _ hxl]at HS
   have hz:=HB2.out _ (List.getElem_mem hxl)
   have hx1:(x:Int)<(cur.length:Int):=by omega
   generalize cur[x]=z at *
   clear hx
   have hxe:=HX.out
   go_wp2_with(at_builtin;refine wpList_append_lies _ rfl _ _ _ rfl w.heap.size 35 i0 _ 1 8 Tryz.underlying47 hi0 hz0 hz1 hz2 rfl (by omega) p done.length (u64L done) rfl (hown.alloc _) ⟨wr.heap.size,0,none⟩ 1 1 [.int .u64 (z:Int)] rfl rfl (World.news_of_block (cs:=#[.int .u64 (z:Int)]) (t:=35) (fr:=(0,0)) (heap_alloc_new wr _)) (by simp [Value.oneCell']) (by omega) (by unfold maxLen;omega) (by omega) (by simp;omega) (wr.heap.size+1) (by simp) ?_;intro gg cap w2 hown2 hgrow hat hlt2)
   clear hxe
   have hb2:Grew w w2:=(hb1.alloc hzs _).grown hgrow (by simp;omega) (fun g hg=>zA hown _ hg)
   have hne:=HO.out ad rfl
   have hr2:Rd w2 w2.heap.size (some ad) (u64L cur):=by
    intro k hk
    obtain⟨ad',h1,h2,h3⟩:=hr k hk
    injection h1 with h1
    subst h1
    have hz2:=hgrow.size
    simp at hz2
    refine⟨ad,rfl,by omega,?_⟩
    rw [hgrow.cell_far _ (by rw [zv];simp;omega) (by rw [zv];exact Ne.symm hne)]
    rw [World.cell?_alloc_lt wr _ _ (by rw [zv];exact hbl)]
    exact h3
   go_wp2_with fail
   refine(zax (some ad) c' w2.heap.size cur (by omega) HB2.out _ hr2 (Nat.le_refl _)).mono ?_
   rintro e w3 ⟨A2,c2,rfl,hr3,hfr,hb3⟩
   have HF:=hQ9 hfr
   clear hfr
   go_wp2_with fail
   have hul:=zU cur
   go_roundw
   case rel =>
    refine⟨A2,c2,upL cur,j / 2,done++[z],_,rfl,rfl,?_,by omega,by omega,?_,hr3,hQ9 (by rw [hul];exact hev.1),hQ9 (qL cur),hQ9 ?_,?_,hQ9 ?_,ze hb2 hb3⟩
    ·congr 1
    ·rw [List.length_append,List.length_singleton];omega
    ·rw [←HR2.out,HS.out];simp
    ·rw [List.length_append,List.length_singleton,show u64L (done++[z])=u64L done++[.int .u64 (z:Int)] by simp [u64L]]
     exact hown2.kept (zc1 hb3) (.inr (by simp [Value.ownBlock]))
    ·intro ad' had hh
     have h5:=HF.out ad' had
     injection hh with hh
     simp only at hh
     omega
   case measure=>simp [lenOf];omega
  ·obtain⟨x,rfl⟩:∃ x,cur=[x]:=by
    match cur,h1,hle with
    | [x],_,_=>exact⟨x,rfl⟩
    | x::y::l,h1,_=>exact absurd (by simp) h1
   have hd:=HR2.out
   rw [zf9,List.append_nil]at hd
   have HD:=hQ9 hd
   clear hd
   obtain⟨A3,c3,rfl,hn1,hn2,hrd⟩:=yN hown
   have hfr:∀ ad,A3=some ad→w.heap.size≤ad.block:=fun ad h=>by subst h;exact zA hown _ rfl
   have HF:=hQ9 hfr
   clear hfr hown
   go_wp2_with fail
   go_ret2
   exact⟨A3,c3,by rw [←HD.out];rfl,by rw [←HD.out];exact hrd,HF.out,hb1⟩
def kyC (who sd:Int) (p n:Nat) (nx rs:Int):Array Value:=#[.int .i64 who,.int .u64 sd,.slice (some ⟨p,0,none⟩) n n,.int .i64 nx,.int .i64 rs]
structure KyAt (w:World) (b p:Nat) (who sd:Int) (l:List Nat) (nx rs:Nat):Prop where
 key:Bk w b 256 (kyC who sd p l.length nx rs)
 pub:Bk w p 35 (u64L l).toArray
 ne:p≠b
theorem kh {w w':World} {b:Nat} {t:TypeId} {cs:Array Value} (h:Bk w b t cs) (hg:Grew w w'):Bk w' b t cs:=(hg.block b h.lt).trans h
theorem KyAt.grew {w w':World} {b p:Nat} {who sd:Int} {l:List Nat} {nx rs:Nat} (h:KyAt w b p who sd l nx rs) (hg:Grew w w'):KyAt w' b p who sd l nx rs:=⟨kh h.key hg,kh h.pub hg,h.ne⟩
theorem KyAt.tn {w w':World} {b p g:Nat} {who sd:Int} {l:List Nat} {nx rs:Nat} (h:KyAt w b p who sd l nx rs) (hg:Tn g w w') (h1:b≠g) (h2:p≠g):KyAt w' b p who sd l nx rs:=⟨h.key.tn hg h1,h.pub.tn hg h2,h.ne⟩
theorem KyAt.set3 {w:World} {b p:Nat} {who sd:Int} {l:List Nat} {nx rs:Nat} (h:KyAt w b p who sd l nx rs) (n:Nat):KyAt (w.setCell ⟨b,3,none⟩ (.int .i64 n)) b p who sd l n rs:=⟨h.key.set_ 3 _,h.pub.far (p:=⟨b,3,none⟩) h.ne _,h.ne⟩
theorem KyAt.set4 {w:World} {b p:Nat} {who sd:Int} {l:List Nat} {nx rs:Nat} (h:KyAt w b p who sd l nx rs) (n:Nat):KyAt (w.setCell ⟨b,4,none⟩ (.int .i64 n)) b p who sd l nx n:=⟨h.key.set_ 4 _,h.pub.far (p:=⟨b,4,none⟩) h.ne _,h.ne⟩
theorem KyAt.drewN {w:World} {b p:Nat} {who sd:Int} {l:List Nat} {nx rs:Nat} (h:KyAt w b p who sd l nx rs) (n:Nat):KyAt (w.drewN n) b p who sd l nx rs:=⟨h.key.drewN n,h.pub.drewN n,h.ne⟩
section
variable {w : World} {b p : Nat} {who sd : Int} {l : List Nat} {nx rs : Nat}
theorem KyAt.c0 (h:KyAt w b p who sd l nx rs):w.cell? ⟨b,0,none⟩=some (.int .i64 who):=h.key.cell 0
theorem KyAt.c1 (h:KyAt w b p who sd l nx rs):w.cell? ⟨b,1,none⟩=some (.int .u64 sd):=h.key.cell 1
theorem KyAt.c2 (h:KyAt w b p who sd l nx rs):w.cell? ⟨b,2,none⟩=some (.slice (some ⟨p,0,none⟩) l.length l.length):=h.key.cell 2
theorem KyAt.c3 (h:KyAt w b p who sd l nx rs):w.cell? ⟨b,3,none⟩=some (.int .i64 nx):=h.key.cell 3
theorem KyAt.c4 (h:KyAt w b p who sd l nx rs):w.cell? ⟨b,4,none⟩=some (.int .i64 rs):=h.key.cell 4
end
theorem bk_rd {w:World} {b:Nat} {t:TypeId} {cs:Array Value} (h:Bk w b t cs):Rd w w.heap.size (some ⟨b,0,none⟩) cs.toList:=by
 intro k hk
 refine⟨_,rfl,h.lt,?_⟩
 have ha:(⟨b,0,none⟩:Addr).add k=⟨b,k,none⟩:=by
  unfold Addr.add
  split
  ·rename_i h
   subst h
   rfl
  ·simp
 rw [ha,h.cell k,Array.getElem?_eq_getElem (by simpa using hk)]
 simp
theorem KyAt.rd {w:World} {b p:Nat} {who sd:Int} {l:List Nat} {nx rs:Nat} (h:KyAt w b p who sd l nx rs):Rd w w.heap.size (some ⟨p,0,none⟩) (u64L l):=by
 have:=bk_rd h.pub
 simpa using this
theorem q9 (b p:Nat) (who sd:Int) (l:List Nat) (nx rs:Nat) (hl:l.length≤256) (hn:nx≤l.length) (w:World) (h:KyAt w b p who sd l nx rs) :
 Calls Tryz.prog 161 #[.pointer (some ⟨b,0,none⟩)] w fun e w'=>e=.returned (.int .i64 ((l.length:Int)-(nx:Int)))∧Grew w w':=by
 have c2:=h.c2
 have c3:=h.c3
 clear h
 generalize l.length=n at *
 have e1:IntKind.i64.wrap ((n:Int)-(nx:Int))=(n:Int)-(nx:Int):=IntWalk.i64_in _ (by omega)
 go_enter Tryz.func161,Tryz.ntmps161
 go_wp2_with fail
 go_quiet (fail)
 go_wp2_with fail
 go_ret
 exact⟨rfl,yr (zc w) _⟩
theorem zeq (b p:Nat) (who sd:Int) (l:List Nat) (nx rs:Nat) (hl:l.length≤256) (hn:nx≤l.length) (hr:rs≤l.length) (n:Nat) (hi:1≤n) (hj:rs+n≤l.length) (w:World) (h:KyAt w b p who sd l nx rs) :
 Calls Tryz.prog 110 #[.pointer (some ⟨b,0,none⟩),.int .i64 (n:Int)] w fun e w'=>e=.returned (.tuple #[.int .i64 ((rs+n:Nat):Int),.int .i64 0])∧Tn b w w'∧KyAt w' b p who sd l nx (rs+n):=by
 have c2:=h.c2
 have c3:=h.c3
 have c4:=h.c4
 have f3:=h.key.frozen 3
 have f4:=h.key.frozen 4
 have H:=hQ9 h
 clear h
 have q1:¬(n:Int)<1:=by omega
 have q2:¬(l.length:Int)-(rs:Int)<(n:Int):=by omega
 have e1:IntKind.i64.wrap ((l.length:Int)-(rs:Int))=(l.length:Int)-(rs:Int):=IntWalk.i64_in _ (by omega)
 have e2:IntKind.i64.wrap ((rs:Int)+(n:Int))=((rs+n:Nat):Int):=by rw [IntWalk.i64_in _ (by omega)];omega
 go_enter Tryz.func110,Tryz.ntmps110
 go_wp2_with fail
 go_quiet (fail)
 go_wp2_with fail
 go_ret2
 exact⟨by simp,kN (zhn (jf _ _) _) (.inl rfl) _,(H.out.drewN _).set4 _⟩
theorem zer (b p:Nat) (who sd:Int) (l:List Nat) (nx rs:Nat) (hl:l.length≤256) (hk:leavesOk l.length=true) (hb:∀ n∈l,n<18446744073709551616) (w:World) (h:KyAt w b p who sd l nx rs) :
 Calls Tryz.prog 111 #[.pointer (some ⟨b,0,none⟩)] w fun e w'=>e=.returned (.int .u64 (rootN l:Nat))∧Grew w w':=by
 have c2:=h.c2
 have C:=hQ9 (zkf (some ⟨p,0,none⟩) l.length w.heap.size l (by omega) hk hb w h.rd (Nat.le_refl _))
 clear h
 go_enter Tryz.func111,Tryz.ntmps111
 go_wp2_with(go_at_call 160;refine(C.out).mono ?_;rintro e w1 ⟨rfl,g1⟩)
 go_ret
 exact⟨rfl,g1⟩
theorem jE (a:Nat) (ha:a<9223372036854775808):(BitVec.ofInt 64 (a:Int)).toNat=a:=by
 rw [BitVec.ofInt_natCast,BitVec.toNat_ofNat];exact Nat.mod_eq_of_lt (by omega)
theorem jF (a:Nat) (ha:a<9223372036854775808):bits .and .i64 (a:Int) 1=((a%2:Nat):Int):=by
 show IntKind.i64.wrap ((BitVec.ofInt 64 (a:Int) &&& BitVec.ofInt 64 ((1:Nat):Int)).toNat:Int)=_
 rw [BitVec.toNat_and,jE a ha,jE 1 (by omega),Nat.and_one_is_mod,IntKind.wrap_i64]
 omega
theorem zga (leaf:Nat) (i:Nat) (A:Option Addr) (c B:Nat) (l:List Nat) (hi:i<9223372036854775808) (hl:l.length≤1048576) (hx:leaf<18446744073709551616) (hb:∀ n∈l,n<18446744073709551616) (w:World) (hr:Rd w B A (u64L l)) :
 Calls Tryz.prog 243 #[.int .u64 leaf,.int .i64 i,.slice A l.length c] w fun e w'=>e=.returned (.int .u64 (climbN leaf i l:Nat))∧w=w':=by
 have HB:=hQ9 hb
 have HR:=hQ9 hr
 clear hb hr
 go_enter Tryz.func243,Tryz.ntmps243
 go_wp2_with fail
 go_loop [1,7,13] (fun iv dv kv=>∃(k j d:Nat),k≤l.length∧kv=.int .i64 k∧iv=.int .i64 j∧j<9223372036854775808∧Hid (j=i / 2^k)∧dv=.int .u64 d∧d<18446744073709551616∧Hid (d=climbN leaf i (l.take k))) (fun _ _ kv=>l.length-(intOf kv).toNat)
 case atStart=>exact⟨0,i,leaf,Nat.zero_le _,rfl,rfl,hi,hQ9 (by simp),rfl,hx,hQ9 (by simp [climbN])⟩
 case round =>
  obtain⟨k,j,d,hk,rfl,rfl,hj,HJ,rfl,hd,HD⟩:=hrel
  by_cases hlt:k<l.length
  ·obtain⟨ad,rfl,hbl,hc⟩:=yx HR.out k hlt
   have hz:=HB.out _ (List.getElem_mem hlt)
   have HT:=hQ9 (jD l leaf i k hlt)
   generalize l[k]=z at *
   obtain⟨p,hp⟩:∃ p,j%2=p:=⟨_,rfl⟩
   have HA:=hQ9 (jF j hj)
   rw [hp]at HA
   have hp2:p<2:=by omega
   have hae:=HA.out
   have HP:=hQ9 hp
   clear hp
   by_cases h0:p=0
   ·subst h0
    have C:=(jQ (d:Int) (z:Int) (zE hd) (zE hz))
    rw [Int.toNat_natCast,Int.toNat_natCast]at C
    have hy:=xe tagMt d z
    have HY:Hid (climbN leaf i (l.take (k+1))=twoN tagMt d z):=hQ9 (by rw [HT.out,←HJ.out,HP.out,←HD.out];rfl)
    have C2:=hQ9 C
    clear C
    generalize twoN tagMt d z=y at *
    go_wp2_with fail
    refine(C2.out _).mono ?_
    rintro e w' ⟨rfl,rfl⟩
    go_wp2_with fail
    go_round
    case rel =>
     refine⟨k+1,j / 2,y,by omega,by go_num,?_,by omega,hQ9 ?_,rfl,hy,hQ9 HY.out.symm⟩
     ·congr 1
     ·rw [HJ.out,Nat.div_div_eq_div_mul,Nat.pow_succ]
    case measure=>simp [intOf];omega
   ·obtain rfl:p=1:=by omega
    have C:=(jQ (z:Int) (d:Int) (zE hz) (zE hd))
    rw [Int.toNat_natCast,Int.toNat_natCast]at C
    have hy:=xe tagMt z d
    have HY:Hid (climbN leaf i (l.take (k+1))=twoN tagMt z d):=hQ9 (by rw [HT.out,←HJ.out,HP.out,←HD.out];rfl)
    have C2:=hQ9 C
    clear C
    generalize twoN tagMt z d=y at *
    go_wp2_with fail
    refine(C2.out _).mono ?_
    rintro e w' ⟨rfl,rfl⟩
    go_wp2_with fail
    go_round
    case rel =>
     refine⟨k+1,j / 2,y,by omega,by go_num,?_,by omega,hQ9 ?_,rfl,hy,hQ9 HY.out.symm⟩
     ·congr 1
     ·rw [HJ.out,Nat.div_div_eq_div_mul,Nat.pow_succ]
    case measure=>simp [intOf];omega
  ·obtain rfl:k=l.length:=by omega
   have hdd:=HD.out
   rw [List.take_length]at hdd
   have HD2:=hQ9 hdd
   clear hdd
   go_wp2_with fail
   go_ret
   exact⟨by rw [←HD2.out];rfl,rfl⟩
theorem zbz (leaf:Nat) (i:Nat) (A:Option Addr) (c B:Nat) (l:List Nat) (hi:i<9223372036854775808) (hl:l.length≤62) (hx:leaf<18446744073709551616) (hb:∀ n∈l,n<18446744073709551616) (w:World) (hr:Rd w B A (u64L l)) :
 Calls Tryz.prog 246 #[.int .u64 leaf,.int .i64 i,.slice A l.length c] w fun e w'=>e=.returned (.int .u64 (climbN leaf i l:Nat))∧w=w':=by
 have HB:=hQ9 hb
 have HR:=hQ9 hr
 clear hb hr
 go_enter Tryz.func246,Tryz.ntmps246
 go_wp2_with fail
 go_loop [7,8] (fun dv kv=>∃(k d:Nat),k≤l.length∧kv=.int .i64 k∧dv=.int .u64 d∧d<18446744073709551616∧Hid (d=climbN leaf i (l.take k))) (fun _ kv=>l.length-(intOf kv).toNat)
 case atStart=>exact⟨0,leaf,Nat.zero_le _,rfl,rfl,hx,hQ9 (by simp [climbN])⟩
 case round =>
  obtain⟨k,d,hk,rfl,rfl,hd,HD⟩:=hrel
  obtain⟨j,hj0⟩:∃ j,j=i / 2^k:=⟨_,rfl⟩
  have hj:j<9223372036854775808:=by rw [hj0];exact Nat.lt_of_le_of_lt (Nat.div_le_self _ _) hi
  have HJ:=hQ9 hj0
  clear hj0
  by_cases hlt:k<l.length
  ·obtain⟨ad,rfl,hbl,hc⟩:=yx HR.out k hlt
   have hz:=HB.out _ (List.getElem_mem hlt)
   have HT:=hQ9 (jD l leaf i k hlt)
   generalize l[k]=z at *
   obtain⟨p,hp⟩:∃ p,j%2=p:=⟨_,rfl⟩
   have HA:=hQ9 (jF j hj)
   rw [hp]at HA
   have hp2:p<2:=by omega
   have HP:=hQ9 hp
   clear hp
   have hae:bits .and .i64 ((i:Int) / 2^k) 1=(p:Int):=by rw [show((i:Int) / 2^k)=((i / 2^k:Nat):Int) by simp,←HJ.out];exact HA.out
   by_cases h0:p=0
   ·subst h0
    have C:=(kx ⟨#[109,116]⟩ (d:Int) (z:Int) (by decide) (zE hd) (zE hz))
    rw [Int.toNat_natCast,Int.toNat_natCast,show(⟨#[109,116]⟩:ByteArray).data.toList=tagMt from rfl]at C
    have hy:=xe tagMt d z
    have HY:Hid (climbN leaf i (l.take (k+1))=twoN tagMt d z):=hQ9 (by rw [HT.out,←HJ.out,HP.out,←HD.out];rfl)
    have C2:=hQ9 C
    clear C
    generalize twoN tagMt d z=y at *
    go_wp2_with fail
    refine(C2.out _).mono ?_
    rintro e w' ⟨rfl,rfl⟩
    go_wp2_with fail
    go_round
    case rel =>
     exact⟨k+1,y,by omega,by go_num,rfl,hy,hQ9 HY.out.symm⟩
    case measure=>simp [intOf];omega
   ·obtain rfl:p=1:=by omega
    have C:=(kx ⟨#[109,116]⟩ (z:Int) (d:Int) (by decide) (zE hz) (zE hd))
    rw [Int.toNat_natCast,Int.toNat_natCast,show(⟨#[109,116]⟩:ByteArray).data.toList=tagMt from rfl]at C
    have hy:=xe tagMt z d
    have HY:Hid (climbN leaf i (l.take (k+1))=twoN tagMt z d):=hQ9 (by rw [HT.out,←HJ.out,HP.out,←HD.out];rfl)
    have C2:=hQ9 C
    clear C
    generalize twoN tagMt z d=y at *
    go_wp2_with fail
    refine(C2.out _).mono ?_
    rintro e w' ⟨rfl,rfl⟩
    go_wp2_with fail
    go_round
    case rel =>
     exact⟨k+1,y,by omega,by go_num,rfl,hy,hQ9 HY.out.symm⟩
    case measure=>simp [intOf];omega
  ·obtain rfl:k=l.length:=by omega
   have hdd:=HD.out
   rw [List.take_length]at hdd
   have HD2:=hQ9 hdd
   clear hdd
   go_wp2_with fail
   go_ret
   exact⟨by rw [←HD2.out];rfl,rfl⟩
noncomputable def verN (root leaf:Nat) (i:Int) (l:List Nat):Bool:=decide (l.length≤8∧0≤i∧i<2^l.length)&&(climbN leaf i.toNat l==root)
theorem xI {root leaf:Nat} {i:Int} {l:List Nat} (h:¬(l.length≤8∧0≤i∧i<2^l.length)):verN root leaf i l=false:=by
 unfold verN;rw [decide_eq_false h];rfl
theorem kz {root leaf:Nat} {i:Int} {l:List Nat} (h:l.length≤8∧0≤i∧i<2^l.length):verN root leaf i l=(climbN leaf i.toNat l==root):=by
 unfold verN;rw [decide_eq_true h];rfl
theorem zdo (n:Nat) (h:n≤8):(2:Int)^n≤256∧1≤(2:Int)^n:=by
 have hc:n=0∨n=1∨n=2∨n=3∨n=4∨n=5∨n=6∨n=7∨n=8:=by omega
 rcases hc with rfl | rfl | rfl | rfl | rfl | rfl | rfl | rfl | rfl<;>decide
theorem zki (root leaf:Nat) (i:Int) (A:Option Addr) (c B:Nat) (l:List Nat) (hl:l.length≤1048576) (hi64:-9223372036854775808≤i∧i≤9223372036854775807) (hx:leaf<18446744073709551616) (hb:∀ n∈l,n<18446744073709551616) (w:World) (hr:Rd w B A (u64L l)) :
 Calls Tryz.prog 198 #[.int .u64 root,.int .u64 leaf,.int .i64 i,.slice A l.length c] w fun e w'=>e=.returned (.bool (verN root leaf i l))∧w=w':=by
 have HR:=hQ9 hr
 have HB:=hQ9 hb
 clear hr hb
 by_cases h8:l.length≤8
 ·obtain⟨s,hs⟩:∃ s:Int,(2:Int)^l.length=s:=⟨_,rfl⟩
  have hp:=zdo l.length h8
  rw [hs]at hp
  have HW:wrap64 (2^l.length)=s:=by rw [hs];unfold wrap64;omega
  by_cases h0:i<0
  ·rw [xI (by omega)]
   clear hs
   go_enter Tryz.func198,Tryz.ntmps198
   go_wp2_with fail
   go_ret
   exact⟨rfl,rfl⟩
  ·by_cases h1:s≤i
   ·rw [xI (by rw [hs];omega)]
    clear hs
    go_enter Tryz.func198,Tryz.ntmps198
    go_wp2_with fail
    go_ret
    exact⟨rfl,rfl⟩
   ·rw [kz (by rw [hs];omega)]
    obtain⟨j,rfl⟩:∃ j:Nat,i=j:=⟨i.toNat,by omega⟩
    rw [Int.toNat_natCast]
    have C:=hQ9 (fun W h=>zga leaf j A c B l (by omega) (by omega) hx HB.out W h)
    have hy:=zay l leaf j hx
    clear hs
    generalize climbN leaf j l=y at *
    by_cases he:y=root
    ·subst he
     go_enter Tryz.func198,Tryz.ntmps198
     go_wp2_with fail
     refine(C.out _ HR.out).mono ?_
     rintro e w' ⟨rfl,rfl⟩
     go_wp2_with fail
     go_ret
     exact⟨zbn (by simp),rfl⟩
    ·have hf:(y==root)=false:=by simpa using he
     have hf2:((y:Int)==(root:Int))=false:=by rw [beq_eq_false_iff_ne];omega
     rw [hf]
     go_enter Tryz.func198,Tryz.ntmps198
     go_wp2_with fail
     refine(C.out _ HR.out).mono ?_
     rintro e w' ⟨rfl,rfl⟩
     go_wp2_with fail
     go_ret
     exact⟨rfl,rfl⟩
 ·rw [xI (by omega)]
  have h8':(8:Int)<(l.length:Int):=by omega
  go_enter Tryz.func198,Tryz.ntmps198
  go_wp2_with fail
  go_ret
  exact⟨rfl,rfl⟩
theorem zes (root leaf:Nat) (i:Int) (A:Option Addr) (c B:Nat) (l:List Nat) (hl:l.length≤1048576) (hi64:-9223372036854775808≤i∧i≤9223372036854775807) (hx:leaf<18446744073709551616) (hb:∀ n∈l,n<18446744073709551616) (w:World) (hr:Rd w B A (u64L l)) :
 Calls Tryz.prog 200 #[.int .u64 root,.int .u64 leaf,.int .i64 i,.slice A l.length c] w fun e w'=>e=.returned (.bool (verN root leaf i l))∧w=w':=by
 have HR:=hQ9 hr
 have HB:=hQ9 hb
 clear hr hb
 by_cases h8:l.length≤8
 ·obtain⟨s,hs⟩:∃ s:Int,(2:Int)^l.length=s:=⟨_,rfl⟩
  have hp:=zdo l.length h8
  rw [hs]at hp
  have HW:wrap64 (2^l.length)=s:=by rw [hs];unfold wrap64;omega
  by_cases h0:i<0
  ·rw [xI (by omega)]
   clear hs
   go_enter Tryz.func200,Tryz.ntmps200
   go_wp2_with fail
   go_ret
   exact⟨rfl,rfl⟩
  ·by_cases h1:s≤i
   ·rw [xI (by rw [hs];omega)]
    clear hs
    go_enter Tryz.func200,Tryz.ntmps200
    go_wp2_with fail
    go_ret
    exact⟨rfl,rfl⟩
   ·rw [kz (by rw [hs];omega)]
    obtain⟨j,rfl⟩:∃ j:Nat,i=j:=⟨i.toNat,by omega⟩
    rw [Int.toNat_natCast]
    have C:=hQ9 (fun W h=>zbz leaf j A c B l (by omega) (by omega) hx HB.out W h)
    have hy:=zay l leaf j hx
    clear hs
    generalize climbN leaf j l=y at *
    by_cases he:y=root
    ·subst he
     go_enter Tryz.func200,Tryz.ntmps200
     go_wp2_with fail
     refine(C.out _ HR.out).mono ?_
     rintro e w' ⟨rfl,rfl⟩
     go_wp2_with fail
     go_ret
     exact⟨zbn (by simp),rfl⟩
    ·have hf:(y==root)=false:=by simpa using he
     have hf2:((y:Int)==(root:Int))=false:=by rw [beq_eq_false_iff_ne];omega
     rw [hf]
     go_enter Tryz.func200,Tryz.ntmps200
     go_wp2_with fail
     refine(C.out _ HR.out).mono ?_
     rintro e w' ⟨rfl,rfl⟩
     go_wp2_with fail
     go_ret
     exact⟨rfl,rfl⟩
 ·rw [xI (by omega)]
  have h8':(8:Int)<(l.length:Int):=by omega
  go_enter Tryz.func200,Tryz.ntmps200
  go_wp2_with fail
  go_ret
  exact⟨rfl,rfl⟩
theorem zb0 (A:Option Addr) (c B:Nat) (l:List Nat) (hl:l.length≤1048576) (w:World) (hr:Rd w B A (u64L l)) (hB:B≤w.heap.size) :
 Calls Tryz.prog 77 #[.slice A l.length c] w (RetU w l):=by
 obtain⟨i0,hi0,hz0,hz1,hz2⟩:=info_parts infoD
 have HR:=hQ9 hr
 clear hr
 go_enter Tryz.func77,Tryz.ntmps77
 go_wp2_with fail
 go_loopw [3,4] (fun pv iv wr=>∃(k:Nat) (p:Value),p=pv∧k≤l.length∧iv=.int .i64 k∧wr.ownsRow w.heap.size 35 1 p k (u64L (l.take k))∧Grew w wr) (fun _ iv _=>l.length-(intOf iv).toNat)
 case atStart=>exact⟨0,_,rfl,Nat.zero_le _,rfl,World.ownsRow_nil _ _ _ _,Below.refl _ _⟩
 case round =>
  obtain⟨k,p,hp,hk,rfl,hown,hb1⟩:=hrel
  subst hp
  by_cases hlt:k<l.length
  ·have hzs:=hb1.size
   obtain⟨ad,rfl,hbl,hc⟩:=yx ((HR.out.more hB).below hb1) k hlt
   have HA:Hid (l.take (k+1)=l.take k++[l[k]]):=hQ9 (by rw [List.take_succ_eq_append_getElem hlt])
   generalize l[k]=z at *
   go_wp2_with(at_builtin;refine wpList_append_lies _ rfl _ _ _ rfl w.heap.size 35 i0 _ 1 8 Tryz.underlying47 hi0 hz0 hz1 hz2 rfl (by omega) p k (u64L (l.take k)) rfl (hown.alloc _) ⟨wr.heap.size,0,none⟩ 1 1 [.int .u64 (z:Int)] rfl rfl (World.news_of_block (cs:=#[.int .u64 (z:Int)]) (t:=35) (fr:=(0,0)) (heap_alloc_new wr _)) (by simp [Value.oneCell']) (by omega) (by unfold maxLen;omega) (by omega) (by simp;omega) (wr.heap.size+1) (by simp) ?_;intro gg cap w2 hown2 hgrow hat hlt2)
   have hb2:Grew w w2:=(hb1.alloc hzs _).grown hgrow (by simp;omega) (fun g hg=>zA hown _ hg)
   go_wp2_with fail
   go_roundw
   case rel=>exact⟨k+1,_,rfl,by omega,by go_num,by rw [HA.out,show u64L (l.take k++[z])=u64L (l.take k)++[.int .u64 (z:Int)] by simp [u64L]];exact hown2,hb2⟩
   case measure=>simp [intOf];omega
  ·obtain rfl:k=l.length:=by omega
   rw [List.take_length]at hown
   obtain⟨A3,c3,rfl,hn1,hn2,hrd⟩:=yN hown
   have hfr:∀ ad,A3=some ad→w.heap.size≤ad.block:=fun ad h=>by subst h;exact zA hown _ rfl
   have HF:=hQ9 hfr
   clear hfr hown
   go_wp2_with fail
   go_ret
   exact⟨A3,c3,rfl,hrd,HF.out,hb1⟩
theorem zh8 (A:Option Addr) (c B:Nat) (l:List Nat) (hl:l.length≤1048576) (w:World) (hr:Rd w B A (u64L l)) (hB:B≤w.heap.size) :
 Calls Tryz.prog 206 #[.slice A l.length c] w (RetU w l):=by
 obtain⟨i0,hi0,hz0,hz1,hz2⟩:=info_parts infoU
 have HR:=hQ9 hr
 clear hr
 go_enter Tryz.func206,Tryz.ntmps206
 go_wp2_with fail
 go_loopw [3,4] (fun pv iv wr=>∃(k:Nat) (p:Value),p=pv∧k≤l.length∧iv=.int .i64 k∧wr.ownsRow w.heap.size 25 1 p k (u64L (l.take k))∧Grew w wr) (fun _ iv _=>l.length-(intOf iv).toNat)
 case atStart=>exact⟨0,_,rfl,Nat.zero_le _,rfl,World.ownsRow_nil _ _ _ _,Below.refl _ _⟩
 case round =>
  obtain⟨k,p,hp,hk,rfl,hown,hb1⟩:=hrel
  subst hp
  by_cases hlt:k<l.length
  ·have hzs:=hb1.size
   obtain⟨ad,rfl,hbl,hc⟩:=yx ((HR.out.more hB).below hb1) k hlt
   have HA:Hid (l.take (k+1)=l.take k++[l[k]]):=hQ9 (by rw [List.take_succ_eq_append_getElem hlt])
   generalize l[k]=z at *
   go_wp2_with(at_builtin;refine wpList_append_lies _ rfl _ _ _ rfl w.heap.size 25 i0 _ 1 8 Tryz.underlying22 hi0 hz0 hz1 hz2 rfl (by omega) p k (u64L (l.take k)) rfl (hown.alloc _) ⟨wr.heap.size,0,none⟩ 1 1 [.int .u64 (z:Int)] rfl rfl (World.news_of_block (cs:=#[.int .u64 (z:Int)]) (t:=25) (fr:=(0,0)) (heap_alloc_new wr _)) (by simp [Value.oneCell']) (by omega) (by unfold maxLen;omega) (by omega) (by simp;omega) (wr.heap.size+1) (by simp) ?_;intro gg cap w2 hown2 hgrow hat hlt2)
   have hb2:Grew w w2:=(hb1.alloc hzs _).grown hgrow (by simp;omega) (fun g hg=>zA hown _ hg)
   go_wp2_with fail
   go_roundw
   case rel=>exact⟨k+1,_,rfl,by omega,by go_num,by rw [HA.out,show u64L (l.take k++[z])=u64L (l.take k)++[.int .u64 (z:Int)] by simp [u64L]];exact hown2,hb2⟩
   case measure=>simp [intOf];omega
  ·obtain rfl:k=l.length:=by omega
   rw [List.take_length]at hown
   obtain⟨A3,c3,rfl,hn1,hn2,hrd⟩:=yN hown
   have hfr:∀ ad,A3=some ad→w.heap.size≤ad.block:=fun ad h=>by subst h;exact zA hown _ rfl
   have HF:=hQ9 hfr
   clear hfr hown
   go_wp2_with fail
   go_ret
   exact⟨A3,c3,rfl,hrd,HF.out,hb1⟩
noncomputable def kA:Nat:=twoN tagMt 1 2
noncomputable def kR:Nat:=twoN tagMt kA (twoN tagMt 3 4)
theorem jY:∀ h:Fin 9,leavesOk (2^h.val)=true:=by decide +kernel
theorem zb1 (h:Nat) (hh:h≤8):leavesOk (2^h)=true:=jY ⟨h,by omega⟩
theorem zh9 (h:Nat) (hh:h≤8):1≤2^h∧2^h≤256:=by
 have:=xg _ (zb1 h hh)
 omega
theorem jZ (h:Nat) (hh:h≤8) (l:List Nat) (i:Nat) (hl:l.length=2^h) (hi:i<l.length):(pathN l i).length=h∧climbN (l.getD i 0) i (pathN l i)=rootN l:=by
 have h1:=zep h l i hl hi
 have h2:=zh9 h hh
 unfold pathN rootN
 rw [qN 9 h l i (by omega) (by omega),qM 9 h l (by omega) (by omega)]
 exact⟨h1.2,h1.1⟩
end Go.Proofs.YtidjnnnigcmdpaaGreatDoor
