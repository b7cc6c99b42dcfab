/- cmd.Digest, the reference's CmdText, CmdDigest. -/
import Derived.Test.YtkpnheenacchhaaGreatDoorPzz
import Derived.Test.YtkpnheenacchhaaGreatDoorPbe
import Derived.Test.YtkpnheenacchhaaGreatDoorPba
import Derived.Test.YtkpnheenacchhaaGreatDoorPag
import Derived.LoopN
import Derived.Test.YtkpnheenacchhaaGreatDoorPbb
set_option maxRecDepth 100000
set_option linter.unusedSimpArgs false
set_option linter.unusedVariables false
namespace Go.Proofs.YtkpnheenacchhaaGreatDoor
open Go.RowKit
theorem zbr {c:Cm} (hc:c.in):(txC c).length≤105:=zad c.l hc
def tagCmd:List UInt8:=[99,109,100]
noncomputable def dgC (c:Cm):Nat:=sumL tagCmd (txC c)
theorem jZ (c:Cm) (hc:c.in) (w:World) (hs:Std w):Calls Tryz.prog 123 #[c.v] w fun e w'=>e=.returned (.int .u64 (dgC c:Nat))∧Grew w w':=by
 have hl:=zbr hc
 have HS:=hQ9 hs
 have HT:=hQ9 (fun(w:World) (h:Std w)=>zgy c hc w h)
 have HD:=hQ9 (fun(w:World)=>jU ⟨#[99,109,100]⟩ ⟨(txC c).toArray⟩ (by decide) (by show(txC c).toArray.size≤_;simp;omega) w)
 have HE:Hid (sumL (⟨#[99,109,100]⟩:ByteArray).data.toList (⟨(txC c).toArray⟩:ByteArray).data.toList=dgC c):=hQ9 rfl
 clear hs hc hl
 obtain⟨cl,no,fr,tt,am⟩:=c
 unfold Cm.v at HT ⊢
 go_enter Tryz.func123,Tryz.ntmps123
 go_wp2_with(go_at_call 181;refine(HT.out _ (HS.out.grew (ze (za w) _))).mono ?_;rintro e w1 ⟨rfl,g1⟩)
 have g1':Grew w w1:=zb (ze (za w) _) g1
 unfold txtV
 go_wp2_with(go_at_call 76;refine(HD.out _).mono ?_;rintro e w2 ⟨rfl,hw⟩;subst hw)
 go_ret
 exact⟨rfl,g1'⟩
theorem zei (c:Cm) (hc:c.in) (w:World):Calls Tryz.prog 221 #[c.v] w fun e w'=>e=.returned (txtV (txC c))∧Grew w w':=by
 obtain⟨cl,no,fr,tt,am⟩:=c
 have HC5:Hid (∀ x∈[cl,no,fr,tt,am],in64 x):=hQ9 hc
 clear hc
 unfold Cm.v
 go_enter Tryz.func221,Tryz.ntmps221
 go_wp2_with fail
 have g0:=ze (ze (za w) (.cells #[.int .i64 cl,.int .i64 no,.int .i64 fr,.int .i64 tt,.int .i64 am] 33)) (.cells #[.int .i64 cl,.int .i64 no,.int .i64 fr,.int .i64 tt,.int .i64 am] 2)
 refine(zm5 (some ⟨w.heap.size+1,0,none⟩) 5 [cl,no,fr,tt,am] (by simp) HC5.out _ (zm6 w (.cells #[.int .i64 cl,.int .i64 no,.int .i64 fr,.int .i64 tt,.int .i64 am] 33) 2 #[.int .i64 cl,.int .i64 no,.int .i64 fr,.int .i64 tt,.int .i64 am])).mono ?_
 rintro e w1 ⟨rfl,g1⟩
 go_wp2_with fail
 go_ret
 exact⟨rfl,zb g0 g1⟩
theorem zii (c:Cm) (hc:c.in) (w:World):Calls Tryz.prog 173 #[c.v] w fun e w'=>e=.returned (.int .u64 (dgC c:Nat))∧Grew w w':=by
 have hl:=zbr hc
 have HT:=hQ9 (fun(w:World)=>zei c hc w)
 have HD:=hQ9 (fun(w:World)=>kL ⟨#[99,109,100]⟩ ⟨(txC c).toArray⟩ (by decide) (by show(txC c).toArray.size≤_;simp;omega) w)
 clear hc hl
 obtain⟨cl,no,fr,tt,am⟩:=c
 unfold Cm.v at HT ⊢
 go_enter Tryz.func173,Tryz.ntmps173
 go_wp2_with(go_at_call 221;refine(HT.out _).mono ?_;rintro e w1 ⟨rfl,g1⟩)
 have g1':Grew w w1:=zb (ze (za w) _) g1
 unfold txtV
 go_wp2_with(go_at_call 103;refine(HD.out _).mono ?_;rintro e w2 ⟨rfl,g2⟩)
 go_ret
 exact⟨rfl,zb g1' g2⟩
theorem jd {P:Program} {W:World} {d:Nat} {xs ys:Array Value} {f:Field} {fs:List Field} {a b:Int} {k:IntKind} (hn:(f.name ≠ "_")=True) (ha:(part f.type xs f.offset).run P W=.ok (.int k a) W) (hb:(part f.type ys f.offset).run P W=.ok (.int k b) W) (hu:P.underlying f.type=some (.int k)) :
 (Op.eqFields (d+1) xs ys (f::fs)).run P W=if a=b then (Op.eqFields (d+1) xs ys fs).run P W else .ok false W:=by
 rw [Op.eqFields,if_pos (of_eq_true hn)]
 simp only [Sem.run_bind,ha,hb,Result.andThen_ok,run_equalIn_int W d f.type k k a b hu]
 by_cases h:a=b
 ·subst h;simp
 ·have h':(a==b)=false:=by simpa using h
  simp [h',h]
theorem cof_ok (c:Cm) (w:World):Calls Tryz.prog 141 #[c.v] w fun e w'=>e=.returned c.v∧Grew w w':=by
 obtain⟨a,b,c,d,e⟩:=c
 have z0:=Ag.new (w.alloc (.cells #[.int .i64 a,.int .i64 b,.int .i64 c,.int .i64 d,.int .i64 e] 40)) 33 #[.int .i64 0,.int .i64 0,.int .i64 0,.int .i64 0,.int .i64 0]
 have g0:=ze (ze (za w) (.cells #[.int .i64 a,.int .i64 b,.int .i64 c,.int .i64 d,.int .i64 e] 40)) (.cells #[.int .i64 0,.int .i64 0,.int .i64 0,.int .i64 0,.int .i64 0] 33)
 have hi5:(Tryz.prog.info? 33).map (·.size)=some 5:=by kernel_rfl
 rw [zl]at z0
 unfold Cm.v
 go_enter Tryz.func141,Tryz.ntmps141
 go_wp2_with(refine wpList_store_mid rfl 33 (.tmp 2) (.tmp 13) rfl (w.heap.size+1) 0 #[.int .i64 a,.int .i64 b,.int .i64 c,.int .i64 d,.int .i64 e] rfl rfl (z0.thereN 5 rfl) hi5 (by simp [Value.oneCell']) ?_;have z1:=Ag.set (vs:=[.int .i64 a,.int .i64 b,.int .i64 c,.int .i64 d,.int .i64 e]) z0 rfl;have g1:=zh (o:=0) (b:=w.heap.size+1) [.int .i64 a,.int .i64 b,.int .i64 c,.int .i64 d,.int .i64 e] g0 (by omega))
 have c0:=z1.cell 0 _ rfl
 have c1:=z1.cell 1 _ rfl
 have c2:=z1.cell 2 _ rfl
 have c3:=z1.cell 3 _ rfl
 have c4:=z1.cell 4 _ rfl
 simp only [Nat.zero_add]at c0 c1 c2 c3 c4
 exact bodyPost_ret (v:=Cm.v ⟨a,b,c,d,e⟩) (by simp [results,Tryz.f141,go_sem,c0,c1,c2,c3,c4];try rfl) rfl ⟨rfl,g1⟩
end Go.Proofs.YtkpnheenacchhaaGreatDoor
