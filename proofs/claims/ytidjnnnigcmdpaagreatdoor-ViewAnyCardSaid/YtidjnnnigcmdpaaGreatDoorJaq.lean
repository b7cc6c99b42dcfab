/- The reference's Num. -/
import Derived.Test.YtidjnnnigcmdpaaGreatDoorJzz
import Derived.Outline
import Derived.Test.YtidjnnnigcmdpaaGreatDoorJaj
import Derived.Test.YtidjnnnigcmdpaaGreatDoorJaa
set_option maxHeartbeats 1000000
set_option maxRecDepth 100000
set_option linter.unusedSimpArgs false
set_option linter.unusedVariables false
set_option linter.unnecessarySimpa false
namespace Go.Proofs.YtidjnnnigcmdpaaGreatDoor
open Go.RowKit
theorem zf5 (a b:List UInt8):(⟨a.toArray⟩:ByteArray)++⟨b.toArray⟩=⟨(a++b).toArray⟩:=by
 apply ByteArray.ext
 simp [ByteArray.data_append]
theorem qI (w:World) (d:Nat) (hd:d<10):(convert 136 9 (.slice (some ⟨w.heap.size,0,none⟩) 1 1)).run Tryz.prog (w.alloc (.cells #[.int .u8 (48+(d:Int))] 5))=.ok (.string ⟨[UInt8.ofNat (48+d)].toArray⟩) (w.alloc (.cells #[.int .u8 (48+(d:Int))] 5)) :=
 xy (P:=Tryz.prog) (w.alloc (.cells #[.int .u8 (48+(d:Int))] 5)) (w.heap.size+1) 136 9 5 (some ⟨w.heap.size,0,none⟩) 1 1 [UInt8.ofNat (48+d)] rfl Tryz.underlying136 Tryz.underlying5 Tryz.underlying9 (by
  have h:=yq w 5 #[.int .u8 (48+(d:Int))] (0,0)
  simp only [List.map_cons,List.map_nil,byteV,u8_of d hd]
  exact_mod_cast h)
theorem zby (u:Nat) (hu:u≤9223372036854775807) (w:World) :
 Calls Tryz.prog 87 #[.int .i64 (u:Int)] w fun e w'=>e=.returned (.string ⟨(Lib.decDigits u).toArray⟩)∧Grew w w':=by
 obtain⟨d,hd⟩:∃ d,u%10=d:=⟨_,rfl⟩
 have hd9:d<10:=by omega
 have hdi:(u:Int)%10=(d:Int):=by omega
 have hcv:=qI w d hd9
 obtain⟨c,hc⟩:∃ c,UInt8.ofNat (48+d)=c:=⟨_,rfl⟩
 rw [hc]at hcv
 have HC:=hQ9 hc
 have HD:=hQ9 hd
 clear hd hc
 have hneg:(decide ((u:Int)<0))=false:=by simp
 go_enter Tryz.func87,Tryz.ntmps87
 go_wp2_with fail
 clear hcv hdi hneg
 go_loopw [0,3] (fun nv sv wr=>∃(q:Nat) (t:List UInt8),q≤9223372036854775807∧nv=.int .i64 (q:Int)∧sv=.string ⟨t.toArray⟩∧Hid (∃ r,t=UInt8.ofNat (48+q%10)::r∧Lib.decDigits q++r=Lib.decDigits u)∧Grew w wr) (fun nv _ _=>(intOf nv).toNat)
 case atStart=>exact⟨u,[c],hu,rfl,rfl,hQ9 ⟨[],by rw [HD.out,HC.out],by rw [List.append_nil]⟩,(Below.refl _ _).alloc (Nat.le_refl _) _⟩
 case round =>
  obtain⟨q,t,hq,rfl,rfl,HP,hg⟩:=hrel
  by_cases h10:10≤q
  ·obtain⟨p,hp⟩:∃ p,q / 10=p:=⟨_,rfl⟩
   obtain⟨d2,hd2⟩:∃ d2,p%10=d2:=⟨_,rfl⟩
   have h29:d2<10:=by omega
   have hpi:(q:Int) / 10=(p:Int):=by omega
   have hdi:(p:Int)%10=(d2:Int):=by omega
   have hpq:p<q:=by omega
   have hcv:=qI wr d2 h29
   obtain⟨c2,hc2⟩:∃ c,UInt8.ofNat (48+d2)=c:=⟨_,rfl⟩
   rw [hc2]at hcv
   have HC2:=hQ9 hc2
   have HD2:=hQ9 hd2
   have HPP:=hQ9 hp
   have h10i:(10:Int)≤(q:Int):=by omega
   have happ:=zf5 [c2] t
   have htl:t.length≤20:=by
    obtain⟨r,ht,hr⟩:=HP.out
    have h1:=congrArg List.length hr
    have h2:=jc u (by omega)
    rw [ht]
    simp only [List.length_append,List.length_cons]at h1 ⊢
    omega
   clear hp hd2 hc2
   go_wp2_with fail
   go_roundw
   case rel =>
    refine⟨p,c2::t,by omega,rfl,rfl,hQ9 ?_,hg.alloc hg.size _⟩
    obtain⟨r,ht,hr⟩:=HP.out
    refine⟨t,by rw [HD2.out,HC2.out],?_⟩
    have hq':Lib.decDigits q=Lib.decDigits (q / 10)++[UInt8.ofNat (48+q%10)]:=by
     conv=>lhs;rw [Lib.decDigits,dif_neg (by omega)]
    rw [←hr,ht,←HPP.out,hq']
    simp
   case measure=>simp [intOf];omega
  ·have h10i:¬(10:Int)≤(q:Int):=by omega
   go_wp2_with fail
   go_ret
   obtain⟨r,ht,hr⟩:=HP.out
   have:t=Lib.decDigits u:=by
    have hq':Lib.decDigits q=[UInt8.ofNat (48+q)]:=by rw [Lib.decDigits,dif_pos (by omega)]
    rw [←hr,ht,hq',Nat.mod_eq_of_lt (by omega)];rfl
   rw [this]
   exact⟨rfl,hg⟩
theorem jk (n:Int) (h0:-9223372036854775808≤n) (h1:n≤9223372036854775807) (w:World) :
 Calls Tryz.prog 87 #[.int .i64 n] w fun e w'=>e=.returned (.string ⟨(Lib.itoa n).toArray⟩)∧Grew w w':=by
 rcases Int.lt_or_le n 0 with hn | hn
 ·by_cases hm:n=-9223372036854775808
  ·subst hm
   have hi:Lib.itoa (-9223372036854775808)=[45,57,50,50,51,51,55,50,48,51,54,56,53,52,55,55,53,56,48,56]:=by
    have h:=zfv (l:=[45,57,50,50,51,51,55,50,48,51,54,56,53,52,55,55,53,56,48,56]) (by decide +kernel)
    have h2:nval [45,57,50,50,51,51,55,50,48,51,54,56,53,52,55,55,53,56,48,56]=-9223372036854775808:=by decide +kernel
    rw [h2]at h
    exact h
   rw [hi]
   clear hi
   go_enter Tryz.func87,Tryz.ntmps87
   go_wp2_with fail
   go_ret
   exact⟨rfl,Below.refl _ _⟩
  ·obtain⟨u,hu⟩:∃ u:Nat,n=-(u:Int):=⟨n.natAbs,by omega⟩
   have hub:u≤9223372036854775807:=by omega
   have hi:Lib.itoa n=45::Lib.decDigits u:=by
    unfold Lib.itoa;rw [if_pos hn,hu];simp
   rw [hi]
   have cR:=zby u hub w
   have e1:IntKind.i64.wrap (0-n)=(u:Int):=by rw [IntWalk.i64_in _ (by omega)];omega
   have e2:-n=(u:Int):=by omega
   have hm2:(n==-9223372036854775808)=false:=by simpa using hm
   have happ:=zf5 [45] (Lib.decDigits u)
   have hlen:=jc u (by omega)
   have CR:=hQ9 cR
   have HU:=hQ9 hu
   clear hi cR hu
   go_enter Tryz.func87,Tryz.ntmps87
   go_wp2_with(first | (go_at_call 87;refine(CR.out).mono ?_;rintro e w' ⟨rfl,hg⟩))
   go_ret
   exact⟨rfl,hg⟩
 ·obtain⟨u,rfl⟩:=Int.eq_ofNat_of_zero_le hn
  have hi:Lib.itoa (u:Int)=Lib.decDigits u:=by unfold Lib.itoa;rw [if_neg (by omega)];simp
  rw [hi]
  exact zby u (by omega) w
end Go.Proofs.YtidjnnnigcmdpaaGreatDoor
