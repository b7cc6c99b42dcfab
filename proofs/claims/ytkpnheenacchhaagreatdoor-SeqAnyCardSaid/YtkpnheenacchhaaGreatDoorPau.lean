/- field.Num, field.ParseNum. -/
import Derived.Test.YtkpnheenacchhaaGreatDoorPzz
import Derived.Test.YtkpnheenacchhaaGreatDoorPao
import Derived.Test.YtkpnheenacchhaaGreatDoorPat
import Derived.WalkKit
import Derived.Test.YtkpnheenacchhaaGreatDoorProg
import Derived.Test.YtkpnheenacchhaaGreatDoorPad
import Derived.Laws.MakeOwn
set_option maxHeartbeats 2000000
set_option maxRecDepth 100000
set_option linter.unusedSimpArgs false
set_option linter.unusedVariables false
namespace Go.Proofs.YtkpnheenacchhaaGreatDoor
open Go.RowKit
def txtV (l:List UInt8):Value:=.string ⟨l.toArray⟩
theorem zfr (w:World) (e:TypeId) (t:ByteArray):Below w.heap.size w (Lib.bytesWorld w e t) :=
 ⟨rfl,rfl,rfl,by rw [Lib.bytesWorld_size];omega,fun i hi=>Lib.bytesWorld_at_old w e t i hi⟩
theorem xE (n:Int) (h0:-9223372036854775808≤n) (h1:n≤9223372036854775807) (w:World) (hs:Std w) :
 Calls Tryz.prog 86 #[.int .i64 n] w fun e w'=>e=.returned (.string ⟨(Lib.itoa n).toArray⟩)∧Grew w w':=by
 have CF:=hQ9 (Tryz.strconv_FormatInt_10 n h0 h1 w hs.tab)
 clear hs
 go_enter Tryz.func86,Tryz.ntmps86
 go_wp2_with(first | (go_at_call 155;refine(CF.out).mono ?_;rintro e w' ⟨rfl,k,os,hw⟩))
 go_ret
 exact⟨rfl,Lib.below_grow _ _ (zN9 _) _ _⟩
theorem qK (s:ByteArray) (hz:s.size≤281474976710656) (w:World) (hs:Std w) :
 Calls Tryz.prog 81 #[.string s] w fun e w'=>e=.returned (.tuple #[.int .i64 (pnum s.data.toList).1,.int .i64 (pnum s.data.toList).2])∧Grew w w':=by
 have hmx:s.size≤9223372036854775806:=by omega
 have cN:=zmy s (by omega) w
 by_cases hN:isNumB s.data.toList=true
 ·rw [hN]at cN
  have hp:=zhm hN
  by_cases hI:inI64 (nval s.data.toList)=true
  ·rw [zgf hN hI]
   rw [if_pos hI]at hp
   have CP:=hQ9 (Tryz.strconv_ParseInt_10_at64_ok s hmx _ hp w)
   have CN:=hQ9 cN
   clear cN hp hN hI hs
   generalize nval s.data.toList=v at *
   go_enter Tryz.func81,Tryz.ntmps81
   go_wp2_with(first
    | (go_at_call 149;refine(CN.out).mono ?_;rintro e w' ⟨rfl,hw⟩;have hw:=hw.symm;subst hw)
    | (go_at_call 150;refine(CP.out).mono ?_;rintro e w' ⟨rfl,hw⟩))
   go_ret2
   refine⟨rfl,?_⟩
   rcases hw with rfl | ⟨t,rfl⟩
   ·exact Below.refl _ _
   ·exact zfr w 5 t
  ·have hI:inI64 (nval s.data.toList)=false:=by simpa using hI
   rw [zji hN hI]
   rw [if_neg (by simp [hI])]at hp
   obtain⟨ev,hv,hev⟩:=hs.rng
   have CP:=hQ9 (Tryz.strconv_ParseInt_10_at64_range s hz hp ev w hv hev)
   have CN:=hQ9 cN
   clear cN hp hN hI hs hv hev
   go_enter Tryz.func81,Tryz.ntmps81
   go_wp2_with(first
    | (go_at_call 149;refine(CN.out).mono ?_;rintro e w' ⟨rfl,hw⟩;have hw:=hw.symm;subst hw)
    | (go_at_call 150;refine(CP.out).mono ?_;rintro e w' ⟨N,rfl,hN1,hN2,hN3⟩))
   go_ret2
   exact⟨rfl,hN3⟩
 ·have hN:isNumB s.data.toList=false:=by simpa using hN
  rw [zjh hN]
  rw [hN]at cN
  have CN:=hQ9 cN
  clear cN hN hs
  go_enter Tryz.func81,Tryz.ntmps81
  go_wp2_with(first
   | (go_at_call 149;refine(CN.out).mono ?_;rintro e w' ⟨rfl,hw⟩;have hw:=hw.symm;subst hw))
  go_ret2
  exact⟨rfl,Below.refl _ _⟩
def in64 (n:Int):Prop:=-9223372036854775808≤n∧n≤9223372036854775807
def numS (n:Int):ByteArray:=⟨(Lib.itoa n).toArray⟩
theorem num_at (n:Int) (h:in64 n) (w:World) (hs:Std w):Calls Tryz.prog 86 #[.int .i64 n] w fun e w'=>e=.returned (.string (numS n))∧Grew w w':=xE n h.1 h.2 w hs
structure Cm where
 cl:Int
 no:Int
 fr:Int
 tt:Int
 am:Int
 deriving DecidableEq
def Cm.l (c:Cm):List Int:=[c.cl,c.no,c.fr,c.tt,c.am]
def Cm.in (c:Cm):Prop:=∀ x∈c.l,in64 x
def Cm.v (c:Cm):Value:=.agg #[.int .i64 c.cl,.int .i64 c.no,.int .i64 c.fr,.int .i64 c.tt,.int .i64 c.am]
def Cm.zero:Cm:=⟨0,0,0,0,0⟩
def okC (c:Cm):Prop:=0≤c.cl∧c.cl<16∧0≤c.no∧c.no≤1048576∧0≤c.fr∧c.fr<16∧0≤c.tt∧c.tt<16∧c.fr≠c.tt∧1≤c.am∧c.am≤1099511627776
instance (c:Cm):Decidable (okC c):=by unfold okC;infer_instance
def chkC (c:Cm):Int:=if okC c then 0 else 1
def txC (c:Cm):List UInt8:=nums c.l
def smallC (n:Int):Prop:=-2147483648≤n∧n<2147483648
instance (n:Int):Decidable (smallC n):=by unfold smallC;infer_instance
theorem ya {c:Cm} (h:¬okC c):chkC c=1:=if_neg h
theorem kZ {c:Cm} (h:okC c):chkC c=0:=if_pos h
theorem Cm.in_of {c:Cm} (h1:in64 c.cl) (h2:in64 c.no) (h3:in64 c.fr) (h4:in64 c.tt) (h5:in64 c.am):c.in:=by
 intro x hx
 simp only [Cm.l,List.mem_cons,List.not_mem_nil,or_false]at hx
 rcases hx with rfl | rfl | rfl | rfl | rfl<;>assumption
theorem yN (n:Int) (b:Bool) (h:decide (0≤n∧n<16)=b) (w:World):Calls Tryz.prog 214 #[.int .i64 n] w fun e w'=>e=.returned (.bool b)∧w'=w:=by
 by_cases h1:0≤n
 ·by_cases h2:n<16
  ·skip
   have e:b=true:=h.symm.trans (decide_eq_true (by omega))
   subst e
   clear h
   go_enter Tryz.func214,Tryz.ntmps214
   go_wp2_with fail
   go_ret
   exact⟨rfl,rfl⟩
  ·skip
   have e:b=false:=h.symm.trans (zF9 (by omega))
   subst e
   clear h
   go_enter Tryz.func214,Tryz.ntmps214
   go_wp2_with fail
   go_ret
   exact⟨rfl,rfl⟩
 ·skip
  have e:b=false:=h.symm.trans (zF9 (by omega))
  subst e
  clear h
  go_enter Tryz.func214,Tryz.ntmps214
  go_wp2_with fail
  go_ret
  exact⟨rfl,rfl⟩
theorem zcj (c:Cm) (w:World):Calls Tryz.prog 164 #[c.v] w fun e w'=>e=.returned (.int .i64 (chkC c))∧Grew w w':=by
 obtain⟨cl,no,fr,tt,am⟩:=c
 unfold Cm.v
 by_cases h0:¬(0≤cl∧cl<16)
 ·skip
  rw [show chkC ⟨cl,no,fr,tt,am⟩=1 from ya (by unfold okC;dsimp only;omega)]
  have q1:decide (0≤cl∧cl<16)=false:=zF9 (by omega)
  have q2:decide (0≤fr∧fr<16)=decide (0≤fr∧fr<16):=rfl
  have q3:decide (0≤tt∧tt<16)=decide (0≤tt∧tt<16):=rfl
  go_enter Tryz.func164,Tryz.ntmps164
  go_wp2_with(go_at_call 214;refine(yN _ _ (by assumption) _).mono ?_;rintro e w' ⟨rfl,hw⟩;subst hw)
  go_ret
  exact⟨rfl,ze (za w) _⟩
 ·by_cases h1:no<0
  ·skip
   rw [show chkC ⟨cl,no,fr,tt,am⟩=1 from ya (by unfold okC;dsimp only;omega)]
   have q1:decide (0≤cl∧cl<16)=true:=decide_eq_true (by omega)
   have q2:decide (0≤fr∧fr<16)=decide (0≤fr∧fr<16):=rfl
   have q3:decide (0≤tt∧tt<16)=decide (0≤tt∧tt<16):=rfl
   have d1:decide (no<0)=true:=decide_eq_true (by omega)
   go_enter Tryz.func164,Tryz.ntmps164
   go_wp2_with(go_at_call 214;refine(yN _ _ (by assumption) _).mono ?_;rintro e w' ⟨rfl,hw⟩;subst hw)
   go_ret
   exact⟨rfl,ze (za w) _⟩
  ·by_cases h2:1048576<no
   ·skip
    rw [show chkC ⟨cl,no,fr,tt,am⟩=1 from ya (by unfold okC;dsimp only;omega)]
    have q1:decide (0≤cl∧cl<16)=true:=decide_eq_true (by omega)
    have q2:decide (0≤fr∧fr<16)=decide (0≤fr∧fr<16):=rfl
    have q3:decide (0≤tt∧tt<16)=decide (0≤tt∧tt<16):=rfl
    have d1:decide (no<0)=false:=zF9 (by omega)
    have d2:decide (1048576<no)=true:=decide_eq_true (by omega)
    go_enter Tryz.func164,Tryz.ntmps164
    go_wp2_with(go_at_call 214;refine(yN _ _ (by assumption) _).mono ?_;rintro e w' ⟨rfl,hw⟩;subst hw)
    go_ret
    exact⟨rfl,ze (za w) _⟩
   ·by_cases h3:¬(0≤fr∧fr<16)
    ·skip
     rw [show chkC ⟨cl,no,fr,tt,am⟩=1 from ya (by unfold okC;dsimp only;omega)]
     have q1:decide (0≤cl∧cl<16)=true:=decide_eq_true (by omega)
     have q2:decide (0≤fr∧fr<16)=false:=zF9 (by omega)
     have q3:decide (0≤tt∧tt<16)=decide (0≤tt∧tt<16):=rfl
     have d1:decide (no<0)=false:=zF9 (by omega)
     have d2:decide (1048576<no)=false:=zF9 (by omega)
     go_enter Tryz.func164,Tryz.ntmps164
     go_wp2_with(go_at_call 214;refine(yN _ _ (by assumption) _).mono ?_;rintro e w' ⟨rfl,hw⟩;subst hw)
     go_ret
     exact⟨rfl,ze (za w) _⟩
    ·by_cases h4:¬(0≤tt∧tt<16)
     ·skip
      rw [show chkC ⟨cl,no,fr,tt,am⟩=1 from ya (by unfold okC;dsimp only;omega)]
      have q1:decide (0≤cl∧cl<16)=true:=decide_eq_true (by omega)
      have q2:decide (0≤fr∧fr<16)=true:=decide_eq_true (by omega)
      have q3:decide (0≤tt∧tt<16)=false:=zF9 (by omega)
      have d1:decide (no<0)=false:=zF9 (by omega)
      have d2:decide (1048576<no)=false:=zF9 (by omega)
      go_enter Tryz.func164,Tryz.ntmps164
      go_wp2_with(go_at_call 214;refine(yN _ _ (by assumption) _).mono ?_;rintro e w' ⟨rfl,hw⟩;subst hw)
      go_ret
      exact⟨rfl,ze (za w) _⟩
     ·by_cases h5:fr=tt
      ·skip
       rw [show chkC ⟨cl,no,fr,tt,am⟩=1 from ya (by unfold okC;dsimp only;omega)]
       have q1:decide (0≤cl∧cl<16)=true:=decide_eq_true (by omega)
       have q2:decide (0≤fr∧fr<16)=true:=decide_eq_true (by omega)
       have q3:decide (0≤tt∧tt<16)=true:=decide_eq_true (by omega)
       have d1:decide (no<0)=false:=zF9 (by omega)
       have d2:decide (1048576<no)=false:=zF9 (by omega)
       go_enter Tryz.func164,Tryz.ntmps164
       go_wp2_with(go_at_call 214;refine(yN _ _ (by assumption) _).mono ?_;rintro e w' ⟨rfl,hw⟩;subst hw)
       go_ret
       exact⟨rfl,ze (za w) _⟩
      ·by_cases h6:am<1
       ·skip
        rw [show chkC ⟨cl,no,fr,tt,am⟩=1 from ya (by unfold okC;dsimp only;omega)]
        have q1:decide (0≤cl∧cl<16)=true:=decide_eq_true (by omega)
        have q2:decide (0≤fr∧fr<16)=true:=decide_eq_true (by omega)
        have q3:decide (0≤tt∧tt<16)=true:=decide_eq_true (by omega)
        have d1:decide (no<0)=false:=zF9 (by omega)
        have d2:decide (1048576<no)=false:=zF9 (by omega)
        have d5:(fr==tt)=false:=by simpa using h5
        have d6:decide (am<1)=true:=decide_eq_true (by omega)
        go_enter Tryz.func164,Tryz.ntmps164
        go_wp2_with(go_at_call 214;refine(yN _ _ (by assumption) _).mono ?_;rintro e w' ⟨rfl,hw⟩;subst hw)
        go_ret
        exact⟨rfl,ze (za w) _⟩
       ·by_cases h7:1099511627776<am
        ·skip
         rw [show chkC ⟨cl,no,fr,tt,am⟩=1 from ya (by unfold okC;dsimp only;omega)]
         have q1:decide (0≤cl∧cl<16)=true:=decide_eq_true (by omega)
         have q2:decide (0≤fr∧fr<16)=true:=decide_eq_true (by omega)
         have q3:decide (0≤tt∧tt<16)=true:=decide_eq_true (by omega)
         have d1:decide (no<0)=false:=zF9 (by omega)
         have d2:decide (1048576<no)=false:=zF9 (by omega)
         have d5:(fr==tt)=false:=by simpa using h5
         have d6:decide (am<1)=false:=zF9 (by omega)
         have d7:decide (1099511627776<am)=true:=decide_eq_true (by omega)
         go_enter Tryz.func164,Tryz.ntmps164
         go_wp2_with(go_at_call 214;refine(yN _ _ (by assumption) _).mono ?_;rintro e w' ⟨rfl,hw⟩;subst hw)
         go_ret
         exact⟨rfl,ze (za w) _⟩
        ·skip
         rw [show chkC ⟨cl,no,fr,tt,am⟩=0 from kZ (by unfold okC;dsimp only;omega)]
         have q1:decide (0≤cl∧cl<16)=true:=decide_eq_true (by omega)
         have q2:decide (0≤fr∧fr<16)=true:=decide_eq_true (by omega)
         have q3:decide (0≤tt∧tt<16)=true:=decide_eq_true (by omega)
         have d1:decide (no<0)=false:=zF9 (by omega)
         have d2:decide (1048576<no)=false:=zF9 (by omega)
         have d5:(fr==tt)=false:=by simpa using h5
         have d6:decide (am<1)=false:=zF9 (by omega)
         have d7:decide (1099511627776<am)=false:=zF9 (by omega)
         go_enter Tryz.func164,Tryz.ntmps164
         go_wp2_with(go_at_call 214;refine(yN _ _ (by assumption) _).mono ?_;rintro e w' ⟨rfl,hw⟩;subst hw)
         go_ret
         exact⟨rfl,ze (za w) _⟩
theorem zh4 (c:Cm) (w:World):Calls Tryz.prog 172 #[c.v] w fun e w'=>e=.returned (.int .i64 (chkC c))∧Grew w w':=by
 obtain⟨cl,no,fr,tt,am⟩:=c
 unfold Cm.v
 by_cases h0:cl<0
 ·skip
  rw [show chkC ⟨cl,no,fr,tt,am⟩=1 from ya (by unfold okC;dsimp only;omega)]
  have d0:decide (cl<0)=true:=decide_eq_true (by omega)
  go_enter Tryz.func172,Tryz.ntmps172
  go_wp2_with fail
  go_ret
  exact⟨rfl,ze (za w) _⟩
 ·by_cases h1:16≤cl
  ·skip
   rw [show chkC ⟨cl,no,fr,tt,am⟩=1 from ya (by unfold okC;dsimp only;omega)]
   have d0:decide (cl<0)=false:=zF9 (by omega)
   have d1:decide (16≤cl)=true:=decide_eq_true (by omega)
   go_enter Tryz.func172,Tryz.ntmps172
   go_wp2_with fail
   go_ret
   exact⟨rfl,ze (za w) _⟩
  ·by_cases h2:no<0
   ·skip
    rw [show chkC ⟨cl,no,fr,tt,am⟩=1 from ya (by unfold okC;dsimp only;omega)]
    have d0:decide (cl<0)=false:=zF9 (by omega)
    have d1:decide (16≤cl)=false:=zF9 (by omega)
    have d2:decide (no<0)=true:=decide_eq_true (by omega)
    go_enter Tryz.func172,Tryz.ntmps172
    go_wp2_with fail
    go_ret
    exact⟨rfl,ze (za w) _⟩
   ·by_cases h3:1048576<no
    ·skip
     rw [show chkC ⟨cl,no,fr,tt,am⟩=1 from ya (by unfold okC;dsimp only;omega)]
     have d0:decide (cl<0)=false:=zF9 (by omega)
     have d1:decide (16≤cl)=false:=zF9 (by omega)
     have d2:decide (no<0)=false:=zF9 (by omega)
     have d3:decide (1048576<no)=true:=decide_eq_true (by omega)
     go_enter Tryz.func172,Tryz.ntmps172
     go_wp2_with fail
     go_ret
     exact⟨rfl,ze (za w) _⟩
    ·by_cases h4:fr<0
     ·skip
      rw [show chkC ⟨cl,no,fr,tt,am⟩=1 from ya (by unfold okC;dsimp only;omega)]
      have d0:decide (cl<0)=false:=zF9 (by omega)
      have d1:decide (16≤cl)=false:=zF9 (by omega)
      have d2:decide (no<0)=false:=zF9 (by omega)
      have d3:decide (1048576<no)=false:=zF9 (by omega)
      have d4:decide (fr<0)=true:=decide_eq_true (by omega)
      go_enter Tryz.func172,Tryz.ntmps172
      go_wp2_with fail
      go_ret
      exact⟨rfl,ze (za w) _⟩
     ·by_cases h5:16≤fr
      ·skip
       rw [show chkC ⟨cl,no,fr,tt,am⟩=1 from ya (by unfold okC;dsimp only;omega)]
       have d0:decide (cl<0)=false:=zF9 (by omega)
       have d1:decide (16≤cl)=false:=zF9 (by omega)
       have d2:decide (no<0)=false:=zF9 (by omega)
       have d3:decide (1048576<no)=false:=zF9 (by omega)
       have d4:decide (fr<0)=false:=zF9 (by omega)
       have d5:decide (16≤fr)=true:=decide_eq_true (by omega)
       go_enter Tryz.func172,Tryz.ntmps172
       go_wp2_with fail
       go_ret
       exact⟨rfl,ze (za w) _⟩
      ·by_cases h6:tt<0
       ·skip
        rw [show chkC ⟨cl,no,fr,tt,am⟩=1 from ya (by unfold okC;dsimp only;omega)]
        have d0:decide (cl<0)=false:=zF9 (by omega)
        have d1:decide (16≤cl)=false:=zF9 (by omega)
        have d2:decide (no<0)=false:=zF9 (by omega)
        have d3:decide (1048576<no)=false:=zF9 (by omega)
        have d4:decide (fr<0)=false:=zF9 (by omega)
        have d5:decide (16≤fr)=false:=zF9 (by omega)
        have d6:decide (tt<0)=true:=decide_eq_true (by omega)
        go_enter Tryz.func172,Tryz.ntmps172
        go_wp2_with fail
        go_ret
        exact⟨rfl,ze (za w) _⟩
       ·by_cases h7:16≤tt
        ·skip
         rw [show chkC ⟨cl,no,fr,tt,am⟩=1 from ya (by unfold okC;dsimp only;omega)]
         have d0:decide (cl<0)=false:=zF9 (by omega)
         have d1:decide (16≤cl)=false:=zF9 (by omega)
         have d2:decide (no<0)=false:=zF9 (by omega)
         have d3:decide (1048576<no)=false:=zF9 (by omega)
         have d4:decide (fr<0)=false:=zF9 (by omega)
         have d5:decide (16≤fr)=false:=zF9 (by omega)
         have d6:decide (tt<0)=false:=zF9 (by omega)
         have d7:decide (16≤tt)=true:=decide_eq_true (by omega)
         go_enter Tryz.func172,Tryz.ntmps172
         go_wp2_with fail
         go_ret
         exact⟨rfl,ze (za w) _⟩
        ·by_cases h8:fr=tt
         ·skip
          rw [show chkC ⟨cl,no,fr,tt,am⟩=1 from ya (by unfold okC;dsimp only;omega)]
          have d0:decide (cl<0)=false:=zF9 (by omega)
          have d1:decide (16≤cl)=false:=zF9 (by omega)
          have d2:decide (no<0)=false:=zF9 (by omega)
          have d3:decide (1048576<no)=false:=zF9 (by omega)
          have d4:decide (fr<0)=false:=zF9 (by omega)
          have d5:decide (16≤fr)=false:=zF9 (by omega)
          have d6:decide (tt<0)=false:=zF9 (by omega)
          have d7:decide (16≤tt)=false:=zF9 (by omega)
          go_enter Tryz.func172,Tryz.ntmps172
          go_wp2_with fail
          go_ret
          exact⟨rfl,ze (za w) _⟩
         ·by_cases h9:am<1
          ·skip
           rw [show chkC ⟨cl,no,fr,tt,am⟩=1 from ya (by unfold okC;dsimp only;omega)]
           have d0:decide (cl<0)=false:=zF9 (by omega)
           have d1:decide (16≤cl)=false:=zF9 (by omega)
           have d2:decide (no<0)=false:=zF9 (by omega)
           have d3:decide (1048576<no)=false:=zF9 (by omega)
           have d4:decide (fr<0)=false:=zF9 (by omega)
           have d5:decide (16≤fr)=false:=zF9 (by omega)
           have d6:decide (tt<0)=false:=zF9 (by omega)
           have d7:decide (16≤tt)=false:=zF9 (by omega)
           have d8:(fr==tt)=false:=by simpa using h8
           have d9:decide (am<1)=true:=decide_eq_true (by omega)
           go_enter Tryz.func172,Tryz.ntmps172
           go_wp2_with fail
           go_ret
           exact⟨rfl,ze (za w) _⟩
          ·by_cases h10:1099511627776<am
           ·skip
            rw [show chkC ⟨cl,no,fr,tt,am⟩=1 from ya (by unfold okC;dsimp only;omega)]
            have d0:decide (cl<0)=false:=zF9 (by omega)
            have d1:decide (16≤cl)=false:=zF9 (by omega)
            have d2:decide (no<0)=false:=zF9 (by omega)
            have d3:decide (1048576<no)=false:=zF9 (by omega)
            have d4:decide (fr<0)=false:=zF9 (by omega)
            have d5:decide (16≤fr)=false:=zF9 (by omega)
            have d6:decide (tt<0)=false:=zF9 (by omega)
            have d7:decide (16≤tt)=false:=zF9 (by omega)
            have d8:(fr==tt)=false:=by simpa using h8
            have d9:decide (am<1)=false:=zF9 (by omega)
            have d10:decide (1099511627776<am)=true:=decide_eq_true (by omega)
            go_enter Tryz.func172,Tryz.ntmps172
            go_wp2_with fail
            go_ret
            exact⟨rfl,ze (za w) _⟩
           ·skip
            rw [show chkC ⟨cl,no,fr,tt,am⟩=0 from kZ (by unfold okC;dsimp only;omega)]
            have d0:decide (cl<0)=false:=zF9 (by omega)
            have d1:decide (16≤cl)=false:=zF9 (by omega)
            have d2:decide (no<0)=false:=zF9 (by omega)
            have d3:decide (1048576<no)=false:=zF9 (by omega)
            have d4:decide (fr<0)=false:=zF9 (by omega)
            have d5:decide (16≤fr)=false:=zF9 (by omega)
            have d6:decide (tt<0)=false:=zF9 (by omega)
            have d7:decide (16≤tt)=false:=zF9 (by omega)
            have d8:(fr==tt)=false:=by simpa using h8
            have d9:decide (am<1)=false:=zF9 (by omega)
            have d10:decide (1099511627776<am)=false:=zF9 (by omega)
            go_enter Tryz.func172,Tryz.ntmps172
            go_wp2_with fail
            go_ret
            exact⟨rfl,ze (za w) _⟩
theorem zj3 (n:Int) (h:in64 n) (w:World) (hs:Std w):Calls Tryz.prog 270 #[.int .i64 n] w fun e w'=>e=.returned (.int .i64 (id n))∧Grew w w':=by
 clear hs
 go_enter Tryz.func270,Tryz.ntmps270
 go_wp2_with fail
 go_ret
 exact⟨rfl,za w⟩
theorem zh5 (A:Option Addr) (c:Nat) (l:List Int) (hl:l.length≤1048576) (hp:∀ x∈l,in64 x) (w:World) (hs:Std w) (hr:Rd w w.heap.size A (i64L l)) :
 Calls Tryz.prog 269 #[.slice A l.length c,.func (.func 270) #[] #[]] w fun e w'=>∃ v,e=.returned v∧w'.ownsRow w.heap.size 2 1 v l.length ((l.map id).map (Value.int .i64))∧Grew w w':=by
 obtain⟨i0,hi,hz0,hz1,hz2⟩:=info_parts (show(Tryz.prog.info? 2).map (fun i=>(i.zero,i.size,i.bytes))=some (some (.int .i64 0),1,8) by kernel_rfl)
 have HPP:=hQ9 hp
 clear hp
 obtain⟨w1,hmk,hown1,hgrow1⟩:=run_make_own (P:=Tryz.prog) w w.heap.size 234 2 i0 (.int .i64 0) 1 Tryz.underlying234 hi hz0 hz1 .i64 .i64 l.length (by rw [hz2];omega) (by unfold maxLen;omega) (zN9 _)
 have hg1:Grew w w1:=(Below.refl _ w).grown hgrow1 (zN9 _) (fun j hj=>by cases hj)
 clear hgrow1
 go_enter Tryz.func269,Tryz.ntmps269
 go_wp2_with fail
 clear hmk
 go_loopw [5,7,13] (fun rv xv iv wr=>∃ k:Nat,k≤l.length∧iv=.int .i64 k∧wr.ownsRow w.heap.size 2 1 rv k (((l.take k).map id).map (Value.int .i64))∧Grew w wr) (fun _ _ iv _=>l.length-(intOf iv).toNat)
 case atStart=>exact⟨0,Nat.zero_le _,rfl,by simpa using hown1,hg1⟩
 case round =>
  obtain⟨k,hk,rfl,hown,hg⟩:=hrel
  by_cases hlt:k<l.length
  ·obtain⟨ad,rfl,hbl,hc0⟩:=jV (hr.below hg) k hlt
   have hk0:(0:Int)≤(k:Int):=by omega
   have hk1:(k:Int)<(l.length:Int):=by omega
   have e1:IntKind.i64.wrap ((k:Int)+1)=((k+1:Nat):Int):=by rw [IntWalk.i64_in _ (by omega)];omega
   have HK:=hQ9 hlt
   have HT:Hid (((l.take (k+1)).map id).map (Value.int .i64)=((l.take k).map id).map (Value.int .i64)++[(Value.int .i64) (id l[k])]):=hQ9 (by rw [List.take_succ_eq_append_getElem hlt,List.map_append,List.map_append];rfl)
   have hpx:=HPP.out l[k] (List.getElem_mem hlt)
   have cC:=zj3 l[k] hpx wr (hs.grew hg)
   generalize l[k]=x at *
   have CC:=hQ9 cC
   have HPX:=hQ9 hpx
   clear cC hpx
   go_wp2_with(first
    | (go_at_call 270;refine(CC.out).mono ?_;rintro e w3 ⟨rfl,hg3⟩;have hown3:=zo (S:=fun _=>False) hown (zF hg3) (fun g _ h=>h);have hgg:=zb hg hg3;have hz3:=hgg.size)
    | (at_builtin;refine zx rfl (.tmp 17) (.tmp 21) 234 rfl w.heap.size 2 i0 (.int .i64 0) 8 Tryz.underlying234 hi hz0 hz1 hz2 rfl _ k _ rfl (hown3.alloc _) (w3.heap.size+1) (some ⟨w3.heap.size,0,none⟩) 1 1 [(Value.int .i64) (id x)] rfl rfl (yb w3 2 #[(Value.int .i64) (id x)] (0,0)) (yG rfl) (by unfold maxLen;omega) (by omega) (by simp;omega) ?_;intro v6 w6 hown6 hgrow6 _;have hg6:=yi hgg hgrow6 (zu hown3)))
   go_roundw
   case rel=>exact⟨k+1,by have:=HK.out;omega,by go_num,by rw [HT.out];exact hown6,hg6⟩
   case measure=>have h9:=HK.out;simp [intOf];omega
  ·obtain rfl:k=l.length:=by omega
   rw [List.take_length]at hown
   go_wp2_with fail
   go_ret
   exact⟨_,rfl,hown,hg⟩
theorem zj4 (A:Option Addr) (c:Nat) (l:List Int) (hl:l.length≤1048576) (hp:∀ x∈l,in64 x) (w:World) (hs:Std w) (hr:Rd w w.heap.size A (i64L l)) :
 Calls Tryz.prog 268 #[.slice A l.length c,.func (.func 86) #[] #[]] w fun e w'=>∃ v,e=.returned v∧w'.ownsRow w.heap.size 9 1 v l.length ((l.map numS).map Value.string)∧Grew w w':=by
 obtain⟨i0,hi,hz0,hz1,hz2⟩:=info_parts (show(Tryz.prog.info? 9).map (fun i=>(i.zero,i.size,i.bytes))=some (some (.string ⟨#[]⟩),1,16) by kernel_rfl)
 have HPP:=hQ9 hp
 clear hp
 obtain⟨w1,hmk,hown1,hgrow1⟩:=run_make_own (P:=Tryz.prog) w w.heap.size 161 9 i0 (.string ⟨#[]⟩) 1 Tryz.underlying161 hi hz0 hz1 .i64 .i64 l.length (by rw [hz2];omega) (by unfold maxLen;omega) (zN9 _)
 have hg1:Grew w w1:=(Below.refl _ w).grown hgrow1 (zN9 _) (fun j hj=>by cases hj)
 clear hgrow1
 go_enter Tryz.func268,Tryz.ntmps268
 go_wp2_with fail
 clear hmk
 go_loopw [5,7,13] (fun rv xv iv wr=>∃ k:Nat,k≤l.length∧iv=.int .i64 k∧wr.ownsRow w.heap.size 9 1 rv k (((l.take k).map numS).map Value.string)∧Grew w wr) (fun _ _ iv _=>l.length-(intOf iv).toNat)
 case atStart=>exact⟨0,Nat.zero_le _,rfl,by simpa using hown1,hg1⟩
 case round =>
  obtain⟨k,hk,rfl,hown,hg⟩:=hrel
  by_cases hlt:k<l.length
  ·obtain⟨ad,rfl,hbl,hc0⟩:=jV (hr.below hg) k hlt
   have hk0:(0:Int)≤(k:Int):=by omega
   have hk1:(k:Int)<(l.length:Int):=by omega
   have e1:IntKind.i64.wrap ((k:Int)+1)=((k+1:Nat):Int):=by rw [IntWalk.i64_in _ (by omega)];omega
   have HK:=hQ9 hlt
   have HT:Hid (((l.take (k+1)).map numS).map Value.string=((l.take k).map numS).map Value.string++[Value.string (numS l[k])]):=hQ9 (by rw [List.take_succ_eq_append_getElem hlt,List.map_append,List.map_append];rfl)
   have hpx:=HPP.out l[k] (List.getElem_mem hlt)
   have cC:=num_at l[k] hpx wr (hs.grew hg)
   generalize l[k]=x at *
   have CC:=hQ9 cC
   have HPX:=hQ9 hpx
   clear cC hpx
   go_wp2_with(first
    | (go_at_call 86;refine(CC.out).mono ?_;rintro e w3 ⟨rfl,hg3⟩;have hown3:=zo (S:=fun _=>False) hown (zF hg3) (fun g _ h=>h);have hgg:=zb hg hg3;have hz3:=hgg.size)
    | (at_builtin;refine zx rfl (.tmp 17) (.tmp 21) 161 rfl w.heap.size 9 i0 (.string ⟨#[]⟩) 16 Tryz.underlying161 hi hz0 hz1 hz2 rfl _ k _ rfl (hown3.alloc _) (w3.heap.size+1) (some ⟨w3.heap.size,0,none⟩) 1 1 [Value.string (numS x)] rfl rfl (yb w3 9 #[Value.string (numS x)] (0,0)) (yG rfl) (by unfold maxLen;omega) (by omega) (by simp;omega) ?_;intro v6 w6 hown6 hgrow6 _;have hg6:=yi hgg hgrow6 (zu hown3)))
   go_roundw
   case rel=>exact⟨k+1,by have:=HK.out;omega,by go_num,by rw [HT.out];exact hown6,hg6⟩
   case measure=>have h9:=HK.out;simp [intOf];omega
  ·obtain rfl:k=l.length:=by omega
   rw [List.take_length]at hown
   go_wp2_with fail
   go_ret
   exact⟨_,rfl,hown,hg⟩
end Go.Proofs.YtkpnheenacchhaaGreatDoor
