/- Rows of calls of a key: a slice of structs of three integers, opened to be read; a struct of a slice loaded whole. -/
import Derived.Deep.Fields
import Derived.Laws.Rows
import Derived.Test.YtidjnnnigcmdpaaGreatDoorJay
import Derived.Test.YtidjnnnigcmdpaaGreatDoorJae
set_option linter.unusedSimpArgs false
set_option linter.unusedVariables false
set_option linter.unnecessarySimpa false
namespace Go.Proofs.YtidjnnnigcmdpaaGreatDoor
open Go.ChangeShapes Go.WideShapes Go.RowKit Go.Deep
theorem kg {P:Program} (w:World) (ad:Addr) (ty:TypeId) (cs:List Value) (d:TypeDesc) (hc:∀ j v,cs[j]?=some v→w.cell? (ad.add j)=some v)
 (hu:P.underlying ty=some d) (hd:(match d with | .struct _ | .array _ _=>true | _=>false)=true) (hi:(P.info? ty).map (·.size)=some cs.length) :
 (loadVar ty ad).run P w=.ok (.agg cs.toArray) w:=by
 have hl:(loadCells ad cs.length).run P w=.ok cs.toArray w:=run_loadCells_list (P:=P) w ad cs (fun j v hv=>hc j v hv)
 cases hq:P.info? ty with
 | none=>simp [hq]at hi
 | some i =>
  have hs:i.size=cs.length:=by simpa [hq]using hi
  have hagg:(isAgg ty).run P w=.ok true w:=by
   unfold isAgg
   rw [Sem.run_bind,run_underlying hu w]
   cases d<;>simp_all
  simp [loadVar,Sem.run_bind,hagg,sizeOf,typeInfo,hq,hs,hl]
theorem qK {P:Program} {op:Oper} {a:Act} {w:World} {K:Act→World→Prop} {Q:Exit→Act→World→Prop} (ty:TypeId) (x:Operand) (ho:op.op=.load ty x)
 (ad:Addr) (hx:a.eval x=.pointer (some ad)) (cs:List Value) (d:TypeDesc) (hc:∀ j v,cs[j]?=some v→w.cell? (ad.add j)=some v)
 (hu:P.underlying ty=some d) (hd:(match d with | .struct _ | .array _ _=>true | _=>false)=true) (hi:(P.info? ty).map (·.size)=some cs.length)
 (h:K (a.put op.dst (.agg cs.toArray)) w):op.wp P a w K Q:=by
 unfold Oper.wp execOp
 simp only [ho,hx,Instr.loadAt,Instr.sureAddr,Sem.run_bind,Sem.run_pure,Result.andThen_ok,kg w ad ty cs d hc hu hd hi]
 exact h
theorem zN {P:Program} {ops:Array Oper} {rest:List Oper} {op:Oper} {a:Act} {w:World} {Q:Exit→Act→World→Prop} (hgd:op.guard=none) (ty:TypeId) (x:Operand) (ho:op.op=.load ty x)
 (ad:Addr) (hx:a.eval x=.pointer (some ad)) (cs:List Value) (d:TypeDesc) (hc:∀ j v,cs[j]?=some v→w.cell? (ad.add j)=some v)
 (hu:P.underlying ty=some d) (hd:(match d with | .struct _ | .array _ _=>true | _=>false)=true) (hi:(P.info? ty).map (·.size)=some cs.length)
 (h:wpList P ops Q rest (a.put op.dst (.agg cs.toArray)) w):wpList P ops Q (op::rest) a w :=
 wpList_plain hgd fun _ hK=>qK ty x ho ad hx cs d hc hu hd hi (hK _ _ h)
def RdS (w:World) (B:Nat) (A:Option Addr) (n:Nat) (rows:List (List Value)):Prop :=
 ∀ k (h:k<rows.length),∃ ad,A=some ad∧ad.block<B∧∀ j v,rows[k][j]?=some v→w.cell? ((ad.add (k*n)).add j)=some v
theorem RdS.keep {w w':World} {B:Nat} {A:Option Addr} {n:Nat} {rows:List (List Value)} (h:RdS w B A n rows) (hk:∀ p:Addr,p.block<B→w'.cell? p=w.cell? p):RdS w' B A n rows:=by
 intro k hk'
 obtain⟨ad,e,hb,hc⟩:=h k hk'
 exact⟨ad,e,hb,fun j v hv=>by rw [hk _ (by rw [zv,zv];exact hb)];exact hc j v hv⟩
theorem RdS.below {w w':World} {B:Nat} {A:Option Addr} {n:Nat} {rows:List (List Value)} (h:RdS w B A n rows) (hb:Below B w w'):RdS w' B A n rows:=h.keep fun _ hp=>hb.cell hp
section
variable {H : Type} {enc : TypeId × Value → H} {P : Program}
end
end Go.Proofs.YtidjnnnigcmdpaaGreatDoor
