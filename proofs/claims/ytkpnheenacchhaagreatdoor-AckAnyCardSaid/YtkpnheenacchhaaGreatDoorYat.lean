/- The reference's ParseNum. -/
import Derived.Test.YtkpnheenacchhaaGreatDoorYzz
import Derived.Deep.DeepCutAuto
import Derived.Deep.CutBlock
import Derived.Test.YtkpnheenacchhaaGreatDoorYas
set_option maxHeartbeats 2000000
set_option maxRecDepth 100000
set_option linter.unusedSimpArgs false
set_option linter.unusedVariables false
namespace Go.Proofs.YtkpnheenacchhaaGreatDoor
open Go.RowKit
def pnumRes (l:List UInt8):Value:=.tuple #[.int .i64 (pnum l).1,.int .i64 (pnum l).2]
theorem zfb (a b:List UInt8):dval a≤dval (a++b):=by
 unfold dval
 rw [List.foldl_append]
 exact zab b _
theorem zdx (l:List UInt8) (k:Nat):dval (l.take k)≤dval l:=by
 have:=zfb (l.take k) (l.drop k)
 rwa [List.take_append_drop]at this
theorem zi4 (s:ByteArray) (k:Nat) (h:k<s.size):dval (s.data.toList.take (k+1))=dval (s.data.toList.take k)*10+(s[k].toNat-48):=by
 rw [jA s k h,jn]
theorem zdy (s:ByteArray):(s.extract 1 s.size).data.toList=s.data.toList.tail:=by
 rw [Lib.extract_data]
 have:s.data.toList.length=s.size:=ye s
 rw [List.take_of_length_le (by rw [List.length_drop];omega),List.drop_one]
theorem zi5 {n:Int} (h0:-9223372036854775808≤n) (h1:n≤9223372036854775807):wrap64 n=n:=by unfold wrap64;omega
theorem zli (c:Int) (h1:48≤c) (h2:c≤57):(-9223372036854775808+(c-48)).tdiv 10=-((9223372036854775808-(c-48)) / 10):=by
 rw [show -9223372036854775808+(c-48)=-(9223372036854775808-(c-48)) from by omega,Int.neg_tdiv,Int.tdiv_eq_ediv_of_nonneg (by omega)]
theorem xN (s:ByteArray) (hs:s.size≤281474976710656) (w:World) :
 Calls Tryz.prog 89 #[.string s] w fun e w'=>e=.returned (pnumRes s.data.toList)∧w'=w:=by
 obtain⟨m,hm⟩:∃ m,minus s.data.toList=m:=⟨_,rfl⟩
 have HM:=hQ9 hm
 clear hm
 go_enter Tryz.func89,Tryz.ntmps89
 go_upto_region 1 with (fail)
 go_cut [4] (fun mv wc=>mv=.bool m∧w=wc)
 case first =>
  by_cases hz:s.size=0
  ·obtain rfl:=xx hz
   obtain rfl:m=false:=HM.out.symm
   go_wp2_with fail
   go_meet
   case rel=>exact⟨rfl,rfl⟩
  ·have hp:0<s.size:=by omega
   have hp1:(0:Int)<(s.size:Int):=by omega
   by_cases hc:(s[0].toNat:Int)=45
   ·have hm:minus s.data.toList=true:=by unfold minus;rw [jZ hp,u8_eq _ 45 (by omega) hc];rfl
    obtain rfl:=HM.out.symm.trans hm
    clear hm
    go_wp2_with fail
    go_meet
    case rel=>exact⟨rfl,rfl⟩
   ·have hm:minus s.data.toList=false:=by
     unfold minus;rw [jZ hp]
     apply decide_eq_false
     intro e;injection e with e;rw [e]at hc;exact hc rfl
    obtain rfl:=HM.out.symm.trans hm
    clear hm
    go_wp2_with fail
    go_meet
    case rel=>exact⟨by simpa using hc,rfl⟩
 case rest =>
  obtain⟨rfl,rfl⟩:=hcut
  go_upto_if 19 with (fail)
  go_cut [5] (fun tv wc=>∃(t:ByteArray),t.size≤281474976710656∧tv=.string t∧Hid (t.data.toList=body s.data.toList)∧w=wc)
  case first =>
   cases m
   ·go_wp2_with fail
    go_meet
    case rel=>exact⟨s,hs,rfl,hQ9 (by unfold body;rw [HM.out];rfl),rfl⟩
   ·have hp:1≤s.size:=by
     rcases Nat.eq_zero_or_pos s.size with h | h
     ·have:=HM.out;rw [xx h]at this;cases this
     ·exact h
    have hp1:(1:Int)≤(s.size:Int):=by omega
    go_wp2_with fail
    go_meet
    case rel=>exact⟨s.extract 1 s.size,by rw [ByteArray.size_extract];omega,rfl,hQ9 (by rw [zdy];unfold body;rw [HM.out];rfl),rfl⟩
  case rest =>
   obtain⟨t,htz,rfl,HT,rfl⟩:=hcut
   by_cases hz:t.size=0
   ·obtain rfl:=xx hz
    have HR:Hid (pnumRes s.data.toList=.tuple #[.int .i64 0,.int .i64 2]):=hQ9 (by
     unfold pnumRes;rw [xH (by unfold isNumB;rw [←HT.out];rfl)])
    go_wp2_with fail
    go_ret2
    exact⟨by rw [HR.out];rfl,rfl⟩
   ·have hp:0<t.size:=by omega
    have hp1:(0:Int)<(t.size:Int):=by omega
    have hie:=jY hp
    have hie2:=qT hp
    have hH:=hQ9 (jZ hp)
    have hN:Hid (t.data.toList≠[]):=hQ9 (fun e=>by have:=ye t;rw [e]at this;simp at this;omega)
    by_cases hbad:(t[0].toNat:Int)=48∧(1<t.size∨m=true)
    ·have HR:Hid (pnumRes s.data.toList=.tuple #[.int .i64 0,.int .i64 2]):=hQ9 (by
      unfold pnumRes
      rw [xH]
      have h48:(body s.data.toList).head?=some 48:=by rw [←HT.out,hH.out,u8_eq _ 48 (by omega) hbad.1];rfl
      unfold isNumB isDec
      rw [h48]
      by_cases h1:body s.data.toList=[48]
      ·rcases hbad.2 with h2 | h2
       ·rw [←HT.out]at h1
        have:=congrArg List.length h1
        rw [ye]at this
        simp at this;omega
       ·rw [HM.out,h2,h1];rfl
      ·rw [decide_eq_false h1];simp)
     obtain⟨hc,hb2⟩:=hbad
     by_cases h1:(1:Int)<(t.size:Int)
     ·go_wp2_with fail
      go_ret2
      exact⟨by rw [HR.out];rfl,rfl⟩
     ·have hm:m=true:=by
       rcases hb2 with h | h
       ·omega
       ·exact h
      subst hm
      go_wp2_with fail
      go_ret2
      exact⟨by rw [HR.out];rfl,rfl⟩
    ·have hgo:Hid (t.data.toList.head?≠some 48∨(t.data.toList=[48]∧m=false)):=hQ9 (by
      by_cases hc:(t[0].toNat:Int)=48
      ·right
       have h1:¬(1<t.size∨m=true):=fun h=>hbad ⟨hc,h⟩
       refine⟨?_,by cases m with
        | true=>exact absurd (.inr rfl) h1
        | false=>rfl⟩
       have hl:t.data.toList.length=1:=by rw [ye];omega
       obtain⟨a,ha⟩:=List.length_eq_one_iff.1 hl
       have hh:=hH.out
       rw [ha]at hh
       simp only [List.head?_cons,Option.some.injEq]at hh
       rw [ha,hh,u8_eq _ 48 (by omega) hc];rfl
      ·left
       rw [hH.out]
       intro e;injection e with e;rw [e]at hc;exact hc rfl)
     have HF:Hid (t.data.toList.all dig=true→isNumB s.data.toList=true∧nval s.data.toList=if m then -(dval t.data.toList:Int) else (dval t.data.toList:Int)):=hQ9 (fun hd=>by
      constructor
      ·unfold isNumB isDec
       rw [←HT.out,HM.out,hd,decide_eq_true hN.out]
       rcases hgo.out with h | ⟨h,h2⟩
       ·rw [decide_eq_true h]
        have:t.data.toList≠[48]:=fun e=>h (by rw [e];rfl)
        rw [decide_eq_false this];simp
       ·rw [h,h2];rfl
      ·unfold nval
       rw [←HT.out,HM.out])
     have HG:Hid (t.data.toList.all dig=false→isNumB s.data.toList=false):=hQ9 (fun hd=>by
      unfold isNumB isDec
      rw [←HT.out,hd];simp)
     have hb3:(t[0].toNat:Int)=48→(¬(1:Int)<(t.size:Int))∧m=false:=fun hc=>by
      have h1:¬(1<t.size∨m=true):=fun h=>hbad ⟨hc,h⟩
      refine⟨by omega,by cases m with
       | true=>exact absurd (.inr rfl) h1
       | false=>rfl⟩
     clear hbad
     go_upto_region 5 with (fail)
     go_cut [36] (fun bv wc=>bv=.bool false∧w=wc)
     case first =>
      by_cases hc:(t[0].toNat:Int)=48
      ·obtain⟨h1,rfl⟩:=hb3 hc
       go_wp2_with fail
       go_meet
       case rel=>exact⟨rfl,rfl⟩
      ·have hcb:((t[0].toNat:Int)==48)=false:=by simpa using hc
       go_wp2_with fail
       go_meet
       case rel=>exact⟨rfl,rfl⟩
     case rest =>
      obtain⟨rfl,rfl⟩:=hcut
      clear hb3 hie hie2
      go_wp2_with fail
      go_loop [6] (fun iv=>∃ k:Nat,k≤t.size∧iv=.int .i64 k∧Hid ((t.data.toList.take k).all dig=true)) (fun iv=>t.size-(intOf iv).toNat)
      case atStart=>exact⟨0,Nat.zero_le _,rfl,hQ9 rfl⟩
      case round =>
       obtain⟨k,hk,rfl,HA⟩:=hrel
       by_cases hlt:k<t.size
       ·have hk0:(0:Int)≤(k:Int):=by omega
        have hk1:(k:Int)<(t.size:Int):=by omega
        have e1:IntKind.i64.wrap ((k:Int)+1)=((k+1:Nat):Int):=by rw [IntWalk.i64_in _ (by omega)];omega
        have HK:=hQ9 hlt
        by_cases hd:dig (t[k]'hlt)=true
        ·obtain⟨hd1,hd2⟩:=dig_int.1 hd
         have HN:=hQ9 (zdw t k hlt HA.out hd)
         clear hd
         go_wp2_with fail
         go_round
         case rel=>exact⟨k+1,by have:=HK.out;omega,by go_num,HN⟩
         case measure=>have h9:=HK.out;simp [intOf];omega
        ·have hdf:dig (t[k]'hlt)=false:=by simpa using hd
         have HR:Hid (pnumRes s.data.toList=.tuple #[.int .i64 0,.int .i64 2]):=hQ9 (by
          unfold pnumRes;rw [xH (HG.out (zgc t k hlt hdf))])
         by_cases hd1:((t[k]'hlt).toNat:Int)<48
         ·clear hd hdf
          go_wp2_with fail
          go_ret2
          exact⟨by rw [HR.out];rfl,rfl⟩
         ·have hd2:(57:Int)<((t[k]'hlt).toNat:Int):=by
           rcases Int.lt_or_le 57 ((t[k]'hlt).toNat:Int)with h | h
           ·exact h
           ·exact absurd (dig_int.2 ⟨by omega,h⟩) hd
          clear hd hdf
          go_wp2_with fail
          go_ret2
          exact⟨by rw [HR.out];rfl,rfl⟩
       ·obtain rfl:k=t.size:=by omega
        have HD:Hid (t.data.toList.all dig=true):=hQ9 (by
         have:=HA.out
         rwa [List.take_of_length_le (by rw [ye];exact Nat.le_refl _)]at this)
        have HV:=hQ9 (HF.out HD.out)
        clear HA HF HG
        go_wp2_with fail
        go_loop [7,8] (fun nv iv=>∃ k v:Nat,k≤t.size∧iv=.int .i64 k∧v≤9223372036854775808∧nv=.int .i64 (-(v:Int))∧Hid (v=dval (t.data.toList.take k))) (fun _ iv=>t.size-(intOf iv).toNat)
        case atStart=>exact⟨0,0,Nat.zero_le _,rfl,by omega,rfl,hQ9 rfl⟩
        case round =>
         obtain⟨k,v,hk,rfl,hv,rfl,HVV⟩:=hrel
         by_cases hlt:k<t.size
         ·have hk0:(0:Int)≤(k:Int):=by omega
          have hk1:(k:Int)<(t.size:Int):=by omega
          have e1:IntKind.i64.wrap ((k:Int)+1)=((k+1:Nat):Int):=by rw [IntWalk.i64_in _ (by omega)];omega
          have HK:=hQ9 hlt
          have hd:dig (t[k]'hlt)=true:=List.all_eq_true.1 HD.out _ (by
           have hk':k<t.data.toList.length:=by rw [ye];exact hlt
           exact List.getElem_mem hk')
          obtain⟨hd1,hd2⟩:=dig_int.1 hd
          have HN:=hQ9 (zi4 t k hlt)
          have HL:=hQ9 (zdx t.data.toList (k+1))
          clear hd
          have htd:=zli ((t[k]'hlt).toNat:Int) hd1 hd2
          by_cases hov:9223372036854775808<10*v+((t[k]'hlt).toNat-48)
          ·have hbig:-(v:Int)<(-9223372036854775808+(((t[k]'hlt).toNat:Int)-48)).tdiv 10:=by rw [htd];omega
           have HR:Hid (pnumRes s.data.toList=.tuple #[.int .i64 0,.int .i64 4]):=hQ9 (by
            have h1:=HN.out
            rw [←HVV.out]at h1
            have h2:=HL.out
            unfold pnumRes
            rw [kj HV.out.1 (by
             rw [HV.out.2]
             unfold inI64
             cases m<;>simp<;>omega)])
           clear htd hov
           go_wp2_with fail
           go_ret2
           exact⟨by rw [HR.out];rfl,rfl⟩
          ·have hbig:(-9223372036854775808+(((t[k]'hlt).toNat:Int)-48)).tdiv 10≤-(v:Int):=by rw [htd];omega
           have hbig2:¬ -(v:Int)<(-9223372036854775808+(((t[k]'hlt).toNat:Int)-48)).tdiv 10:=by rw [htd];omega
           obtain⟨v2,hv2⟩:∃ v2:Nat,10*v+((t[k]'hlt).toNat-48)=v2:=⟨_,rfl⟩
           have e5:wrap64 (wrap64 (10 * -(v:Int))-(((t[k]'hlt).toNat:Int)-48))=-(v2:Int):=by
            rw [show wrap64 (10 * -(v:Int))=10 * -(v:Int) from zi5 (by omega) (by omega)]
            rw [show 10 * -(v:Int)-(((t[k]'hlt).toNat:Int)-48)=-(v2:Int) from by omega]
            exact zi5 (by omega) (by omega)
           have HV2:=hQ9 hv2
           have E5:=hQ9 e5
           have hv2b:v2≤9223372036854775808:=by omega
           clear htd hov hv2
           go_wp2_with fail
           go_round
           case rel=>exact⟨k+1,v2,by have:=HK.out;omega,by go_num,hv2b,by first | rfl | exact congrArg (Value.int .i64) e5 | (rw [E5.out]),hQ9 (by rw [HN.out,←HVV.out,←HV2.out];omega)⟩
           case measure=>have h9:=HK.out;simp [intOf];omega
         ·obtain rfl:k=t.size:=by omega
          have HV3:Hid (v=dval t.data.toList):=hQ9 (by
           have:=HVV.out
           rwa [List.take_of_length_le (by rw [ye];exact Nat.le_refl _)]at this)
          cases m with
          | true =>
           have HR:Hid (pnumRes s.data.toList=.tuple #[.int .i64 (-(v:Int)),.int .i64 0]):=hQ9 (by
            have hv9:nval s.data.toList=-(v:Int):=by rw [HV.out.2,←HV3.out];rfl
            unfold pnumRes
            rw [kF HV.out.1 (by
             rw [hv9]
             unfold inI64
             simp;omega),hv9])
           go_wp2_with fail
           go_ret2
           exact⟨by rw [HR.out];rfl,rfl⟩
          | false =>
           have hv9:Hid (nval s.data.toList=(v:Int)):=hQ9 (by rw [HV.out.2,←HV3.out];rfl)
           by_cases hlow:v=9223372036854775808
           ·subst hlow
            have HR:Hid (pnumRes s.data.toList=.tuple #[.int .i64 0,.int .i64 4]):=hQ9 (by
             unfold pnumRes
             rw [kj HV.out.1 (by
              rw [hv9.out]
              unfold inI64
              simp)])
            go_wp2_with fail
            go_ret2
            exact⟨by rw [HR.out];rfl,rfl⟩
           ·have HR:Hid (pnumRes s.data.toList=.tuple #[.int .i64 (v:Int),.int .i64 0]):=hQ9 (by
             unfold pnumRes
             rw [kF HV.out.1 (by
              rw [hv9.out]
              unfold inI64
              simp;omega),hv9.out])
            have e6:IntKind.i64.wrap (0 - -(v:Int))=(v:Int):=by rw [IntWalk.i64_in _ (by omega)];omega
            have h7:(-(v:Int)==-9223372036854775808)=false:=by
             have:¬ -(v:Int)=-9223372036854775808:=by omega
             simpa using this
            go_wp2_with fail
            go_ret2
            exact⟨by rw [HR.out];rfl,rfl⟩
end Go.Proofs.YtkpnheenacchhaaGreatDoor
