/- A world in which the library's variables hold what their initialisers lay; the rows' frame. -/
import Derived.Test.YtpppegnojmnicaaGreatDoorRows
import Derived.PinnedBridge
import Derived.LaidSub
import Derived.Stop.LaidErr
import Derived.Shelf.Vars
import Derived.SevenTiedAt
import Derived.Lib.LaidIn
import Derived.Deep.DeepHandedRow
import Derived.Deep.DeepWitnessRowRef
import Derived.Test.YtpppegnojmnicaaGreatDoorTax
import Derived.Test.YtpppegnojmnicaaGreatDoorTam
import Derived.Lib.SmallJoins
import Derived.Test.YtpppegnojmnicaaGreatDoorProg
import Derived.Test.YtpppegnojmnicaaGreatDoorTat
import Derived.Test.YtpppegnojmnicaaGreatDoorTbt
import Derived.Test.YtpppegnojmnicaaGreatDoorCards
import Derived.Test.YtpppegnojmnicaaGreatDoorTie
import Derived.Test.YtpppegnojmnicaaGreatDoorTbu
set_option maxRecDepth 1000000
set_option linter.unusedSimpArgs false
set_option linter.unusedVariables false
namespace Go.Proofs.YtpppegnojmnicaaGreatDoor
open Go.ChangeShapes Go.WideShapes Go.ChangeAt Go.RowKit Go.ChangeMaps
def rangeS:ByteArray:=⟨#[118,97,108,117,101,32,111,117,116,32,111,102,32,114,97,110,103,101]⟩
def syntaxS:ByteArray:=⟨#[105,110,118,97,108,105,100,32,115,121,110,116,97,120]⟩
def putG (h:Array Obj) (g:Nat) (cs:Array Value):Array Obj:=h.modify g fun
 | .cells _ t frozen=>.cells cs t frozen
 | o=>o
def litsOf (d:DataW Unit):Array Value:=match d with
 | .agg l=>(l.flatMap fun x=>match x with
  | .lit (.int k n)=>[Value.int k n]
  | .agg m=>m.filterMap fun y=>match y with
   | .lit (.int k n)=>some (Value.int k n)
   | _=>none
  | _=>[]).toArray
 | _=>#[]
noncomputable def laidWorld (os:Os):World :=
 let N:=(World.settled Tryz.prog os).heap.size
 let w0:=World.holding Tryz.prog os ⟨#[.cells #[.string rangeS] 452,.cells #[.string syntaxS] 452],#[],[]⟩
 let h1:=putG w0.heap 6 (litsOf Rows.laid_math_bits_deBruijn32tab)
 let h2:=putG h1 7 (litsOf Rows.laid_math_bits_deBruijn64tab)
 let h3:=putG h2 2 (litsOf Rows.laid_internal_strconv_uint64pow10)
 let h4:=putG h3 4 (litsOf Rows.laid_unicode_utf8_acceptRanges)
 let h5:=putG h4 1 #[.iface 450 (.pointer (some ⟨N,0,none⟩))]
 let h6:=putG h5 0 #[.iface 450 (.pointer (some ⟨N+1,0,none⟩))]
 let h7:=putG h6 3 (litsOf Rows.laid_unicode_utf8_first)
 { w0 with heap:=h7 }
noncomputable abbrev N0:Nat:=(World.settled Tryz.prog default).heap.size
def laidL:List (String × DataW Unit):=[("math/bits.deBruijn32tab",Rows.laid_math_bits_deBruijn32tab),("math/bits.deBruijn64tab",Rows.laid_math_bits_deBruijn64tab),("internal/strconv.uint64pow10",Rows.laid_internal_strconv_uint64pow10),("unicode/utf8.acceptRanges",Rows.laid_unicode_utf8_acceptRanges),("strconv.ErrRange",Rows.laid_strconv_ErrRange),("strconv.ErrSyntax",Rows.laid_strconv_ErrSyntax),("unicode/utf8.first",Rows.laid_unicode_utf8_first)]
theorem zqi (os:Os) (args:Array Value):laidMet Tryz.prog laidL ((laidWorld os).forCall (fun _ _=>0) ⟨#[],args,[]⟩).memory :=
 (LaidIn.of_run [6,7,2,4,1,0,3,N0,N0+1] 8 (by kernel_rfl) (by kernel_rfl) (by kernel_rfl) (by kernel_rfl)).met
theorem zg7 : "*" ++ "errors.errorString" = "*errors.errorString" := by decide
theorem zsx (u:TypeId) (h:Tryz.prog.typeName? 3 u=some "*errors.errorString"):u=450 :=
 typeName_ptr_named (nm := "errors.errorString") (by rw [zg7];kernel_rfl) (by kernel_rfl) (by decide) u (by rw [zg7];exact h)
theorem zet {w:World} (h:laidMetH Tryz.prog laidL w) (keep:String × DataW Unit→Bool) (hk:((laidL.filter keep).all fun x=>x.2.handleName?.isNone)=true):laidMet Tryz.prog (laidL.filter keep) w:=by
 rw [←MakeChecks.laidMetH_plain _ _ _ hk]
 exact h.filter keep
theorem std_of {w:World} (h:laidMetH Tryz.prog laidL w) (hsh:w.ShapedOpen Tryz.prog):Std w:=by
 refine⟨?_,?_,?_⟩
 ·have h1:=zet h (fun x=>x.1 == "internal/strconv.uint64pow10") (by kernel_rfl)
  exact Lib.tabIs_of_head (rest:=[]) gPow (by kernel_rfl) Tryz.underlying433 Tryz.underlying55 (by kernel_rfl) (by kernel_rfl) (show laidMet Tryz.prog [("internal/strconv.uint64pow10",Lib.tabData .u64 Lib.pow10Tab)] w from by
   have e:laidL.filter (fun x=>x.1 == "internal/strconv.uint64pow10")=[("internal/strconv.uint64pow10",Lib.tabData .u64 Lib.pow10Tab)]:=by kernel_rfl
   rw [e]at h1
   exact h1)
 ·have h1:=zet h (fun x=>x.1 == "strconv.ErrRange") (by kernel_rfl)
  have e:laidL.filter (fun x=>x.1 == "strconv.ErrRange")=[("strconv.ErrRange",Rows.laid_strconv_ErrRange)]:=by kernel_rfl
  rw [e]at h1
  have gE:Tryz.prog.globalNamed "strconv.ErrRange" = some 1:=by kernel_rfl
  obtain⟨a,s,hv,_,_,_⟩:=laid_sentinel h1 gE (by kernel_rfl) Tryz.underlying264 zsx Tryz.underlying450 Tryz.underlying452 rfl rfl Tryz.underlying9 (by kernel_rfl) (by kernel_rfl)
  exact⟨_,by simpa using World.var?_cell gE hv 0,.inr ⟨_,_,rfl⟩⟩
 ·exact cell_of_shapedOpen_int (P:=Tryz.prog) (g:=5) (t:=3) (zero:=#[.int .i64 0]) hsh (of_decide_eq_true (by kernel_rfl)) (by kernel_rfl) rfl (by kernel_rfl) (by kernel_rfl) Tryz.underlying3
section
variable {H : Type} {enc : TypeId × Value → H}
theorem zqj {os:Os} {f:FuncId} {fn:Func} {s:ChangeSpec} {tb:TypeId} {F:Stop.Interp} (wargs:Array Value) (ws:List (DataW H)) (wp:List MemPlace)
 (started:os.Started) (noInit:Tryz.checked.prog.inits.idxOf? f=none) (hfn:Tryz.checked.prog.funcs[f]?=some fn)
 (hv:((laidWorld os).forCall (fun _ _=>0) ⟨#[],wargs,[]⟩).variablesRefB Tryz.checked.prog=true)
 (hrw:(((laidWorld os).forCall (fun _ _=>0) ⟨#[],wargs,[]⟩).heap.toList.drop Tryz.checked.prog.globals.size).take ((begin Tryz.checked.prog (fun _ _=>0) default).world.heap.size-Tryz.checked.prog.globals.size) =
   (begin Tryz.checked.prog (fun _ _=>0) default).world.heap.toList.drop Tryz.checked.prog.globals.size)
 (hok:Input.okWideB Tryz.checked.prog ((laidWorld os).forCall (fun _ _=>0) ⟨#[],wargs,[]⟩) f ⟨#[],wargs,[]⟩=true)
 (hrow:(OpenSpec.ofChange s).preRow enc Tryz.checked.prog fn [] false laidL ((laidWorld os).forCall (fun _ _=>0) ⟨#[],wargs,[]⟩).memory wargs)
 (hp:fn.params.toList.all (fun t=>Tryz.checked.prog.readableRec t&&decide (t<Tryz.checked.prog.types.size))=true)
 (hr:fn.resultTypes=#[tb]) (htb:Tryz.checked.prog.underlying tb=some .bool) (hvars:s.vars=[])
 (hs:∀ ds:List (DataW H),ds.length=fn.params.size→s.fn H ds={ results:=[.lit (.bool true)],args:=ds })
 (law:∀(W:World) (base:Nat) (args:Array Value) (ds:List (DataW H)) (p:List MemPlace),
   (∀(j:Nat) t v,fn.params[j]?=some t→args[j]?=some v→Value.okWide Tryz.checked.prog W .any base t v) →
   DataW.TrodAll enc Tryz.checked.prog W 0 (fun _=>true) true fn.params.toList args.toList ds p→Std W →
   Calls Tryz.checked.prog f args W fun e W'=>e=.returned (.bool true)∧Below W.heap.size W W') :
 ReturnsInHanded {} Tryz.checked os f .any ((OpenSpec.ofChange s).preRow enc Tryz.checked.prog fn [] false laidL) (((OpenSpec.ofChange s).at F).post enc Tryz.checked.prog fn false true false false):=by
 refine returnsInHanded_of_row (C:=Tryz.checked) (s:=OpenSpec.ofChange s) zo4 started noInit hfn (witness_row_atRef (enc:=enc) (C:=Tryz.checked) false (laidWorld os) wargs rfl hv hrw hok hrow) ?_
 intro W base args ds gs before hval hW _ _ _ hL hsh _
 have hA:=hW
 obtain⟨pa,pv,hA,_,_,_,_⟩:=hA
 refine(law W base args ds pa hval hA (std_of hL hsh)).mono fun e W' ⟨he,hb⟩=>?_
 subst he
 refine⟨_,rfl,zo3 (s:=s) (gs:=gs) (before:=before) (ds:=ds) zo5 ?_ hr htb hvars hs hW hb⟩
 intro t ht
 have:=List.all_eq_true.1 hp t ht
 simpa using this
end
end Go.Proofs.YtpppegnojmnicaaGreatDoor
namespace Go.Proofs.YtpppegnojmnicaaGreatDoor
open Go.RowKit Go.ChangeShapes Go.WideShapes Go.ChangeMaps Go.Joins
theorem list5 {α:Type} {cs:List α} (h:cs.length=5):∃ c0 c1 c2 c3 c4,cs=[c0,c1,c2,c3,c4]:=by
 match cs,h with
 | [c0,c1,c2,c3,c4],_=>exact⟨c0,c1,c2,c3,c4,rfl⟩
open Go.Deep
section
variable {H : Type} {enc : TypeId × Value → H} {W : World}
theorem zqk {n:Nat} {cs:List Value} {x:DataW H × List MemPlace} (h:DataW.trod enc Tryz.prog W 0 (fun _=>true) true n 26 cs=some x):∃ c:Cm,cs=c.cells.toList∧c.in:=by
 obtain⟨xs,m,_,_,hl,hlen,hh⟩:=DataW.trod_struct Tryz.underlying26 h
 rw [show Tryz.prog.cellsOf 26=5 by kernel_rfl]at hl
 obtain⟨c0,c1,c2,c3,c4,rfl⟩:=list5 hl
 obtain⟨y0,y1,y2,y3,y4,rfl⟩:=list5 (show xs.length=5 from hlen)
 have ci:Tryz.prog.cellsOf 3=1:=by kernel_rfl
 have cj:Tryz.prog.cellsOf 2=1:=by kernel_rfl
 have h0:=hh 0 _ rfl
 have h1:=hh 1 _ rfl
 have h2:=hh 2 _ rfl
 have h3:=hh 3 _ rfl
 have h4:=hh 4 _ rfl
 simp [ci,cj]at h0 h1 h2 h3 h4
 obtain⟨n0,e0,_,i0⟩:=DataW.trod_int Tryz.underlying3 h0
 obtain⟨n1,e1,_,i1⟩:=DataW.trod_int Tryz.underlying3 h1
 obtain⟨n2,e2,_,i2⟩:=DataW.trod_int Tryz.underlying3 h2
 obtain⟨n3,e3,_,i3⟩:=DataW.trod_int Tryz.underlying3 h3
 obtain⟨n4,e4,_,i4⟩:=DataW.trod_int Tryz.underlying2 h4
 simp only [List.cons.injEq,and_true]at e0 e1 e2 e3 e4
 subst e0 e1 e2 e3 e4
 exact⟨⟨n0,n1,n2,n3,n4⟩,rfl,Cm.in_of (wf_i64 i0) (wf_i64 i1) (wf_i64 i2) (wf_i64 i3) (wf_i64 i4)⟩
theorem zql {n:Nat} {cs:List Value} {x:DataW H × List MemPlace} (h:DataW.trod enc Tryz.prog W 0 (fun _=>true) true n 27 cs=some x) :
 ∃(A:Option Addr) (c:Nat) (L:List SP),cs=[.slice A L.length c]∧L.length≤c∧c≤maxLen∧RdG W A L∧(∀ S∈L,S.l.length≤1000→S.ok)∧∀ S∈L,S.at W:=by
 have hC:Tryz.prog.cellsOf 169=24:=by kernel_rfl
 rcases Deep.open_slice Tryz.underlying27 h with ⟨rfl,_⟩ | ⟨a,l,c,m,n,D,Pl,rfl,hb,hl,hm,hmm,hx,hV⟩
 ·exact⟨none,0,[],rfl,Nat.zero_le _,Nat.zero_le _,fun k hk=>absurd hk (by simp),by simp,by simp⟩
 ·have hlm:l≤m:=by rw [hmm];split<;>omega
  have key:∀ i,i<l→∃ S:SP,(∀ j v,S.C.toList[j]?=some v→W.cell? ((a.add (i*24)).add j)=some v)∧(S.l.length≤1000→S.ok)∧S.at W:=by
   intro i hi'
   obtain⟨cs',hc,ht'⟩:=hV i (by omega)
   rw [hC]at hc
   obtain⟨_,hcl,hat⟩:=World.cells?_some hc
   obtain⟨S,rfl,w1,w2⟩:=zsv ht'
   refine⟨S,fun j v hv=>?_,w1,w2⟩
   have hj:j<24:=(List.getElem?_eq_some_iff.1 hv).1
   have:=hat j (by omega)
   rw [hv]at this
   exact this
  obtain⟨L,hL⟩:=choose_lt (α:=SP) (p:=fun i S=>(∀ j v,S.C.toList[j]?=some v→W.cell? ((a.add (i*24)).add j)=some v)∧(S.l.length≤1000→S.ok)∧S.at W) key
  refine⟨some a,c,(List.range l).map L,by simp,by simpa using hl,hm,?_,?_,?_⟩
  ·intro k hk
   have hk':k<l:=by simpa using hk
   obtain⟨h5,_⟩:=hL k hk'
   refine⟨a,rfl,?_,fun j v hv=>h5 j v (by simpa using hv)⟩
   rcases Nat.lt_or_ge a.block W.heap.size with h' | h'
   ·exact h'
   ·have:W.heap[((a.add (k*24)).add 0).block]?=none:=by rw [zL,zL];exact Array.getElem?_eq_none h'
    have h6:=h5 0 _ rfl
    simp only [World.cell?,this]at h6
    cases h6
  ·intro S hS
   obtain⟨i,hi',rfl⟩:=List.mem_map.1 hS
   exact(hL i (by simpa using hi')).2.1
  ·intro S hS
   obtain⟨i,hi',rfl⟩:=List.mem_map.1 hS
   exact(hL i (by simpa using hi')).2.2
theorem zsy {r:Reach} {b0:Nat} {v:Value} {d:DataW H} {ps:List MemPlace} (hv:Value.okWide Tryz.prog W r b0 29 v) (h:DataW.Trod enc Tryz.prog W 0 (fun _=>true) true 29 v d ps) :
 ∃(c:Cm) (A:Option Addr) (k:Nat) (L:List SP),v=.agg (ctC c A L.length k)∧c.in∧L.length≤k∧k≤maxLen∧RdG W A L∧(∀ S∈L,S.l.length≤1000→S.ok)∧∀ S∈L,S.at W:=by
 obtain⟨cs,rfl,hsz⟩:=okWide_struct Tryz.underlying29 hv
 obtain⟨fuel,hf⟩:=h
 obtain⟨xs,m,_,_,hl,hlen,hh⟩:=DataW.trod_struct Tryz.underlying29 hf
 rw [show Tryz.prog.cellsOf 29=6 by kernel_rfl]at hl
 have cc:Tryz.prog.cellsOf 26=5:=by kernel_rfl
 have cl:Tryz.prog.cellsOf 27=1:=by kernel_rfl
 obtain⟨y0,y1,rfl⟩:∃ a b,xs=[a,b]:=by
  match xs,(show xs.length=2 from hlen)with
  | [a,b],_=>exact⟨a,b,rfl⟩
 have h0:DataW.trod enc Tryz.prog W 0 (fun _=>true) true m 26 (((Value.agg cs).cells.toList.drop 0).take (Tryz.prog.cellsOf 26))=_:=hh 0 _ rfl
 have h1:DataW.trod enc Tryz.prog W 0 (fun _=>true) true m 27 (((Value.agg cs).cells.toList.drop 5).take (Tryz.prog.cellsOf 27))=_:=hh 1 _ rfl
 simp only [cc,cl,List.getElem?_cons_zero,List.getElem?_cons_succ]at h0 h1
 obtain⟨c,e0,hc⟩:=zqk h0
 obtain⟨A,k,L,e1,hk,hm,hr,ho,ha⟩:=zql h1
 refine⟨c,A,k,L,?_,hc,hk,hm,hr,ho,ha⟩
 have hag:(Value.agg cs).cells.toList=cs.toList:=rfl
 rw [hag]at hl e0 e1
 obtain⟨cl⟩:=cs
 have k0:=yW cl 0 5
 have k1:=yW cl 5 1
 rw [e0]at k0
 rw [e1,show cl.drop (5+1)=[] from List.drop_eq_nil_of_le (by have:cl.length=6:=hl;omega)]at k1
 rw [show 0+5=5 from rfl,k1]at k0
 rw [List.drop_zero]at k0
 rw [k0]
 rfl
end
end Go.Proofs.YtpppegnojmnicaaGreatDoor
namespace Go.Proofs.YtpppegnojmnicaaGreatDoor
open Go.ChangeShapes Go.WideShapes Go.ChangeAt Go.RowKit Go.ChangeMaps
theorem zbm {H:Type} {enc:TypeId × Value→H} (W:World) (base:Nat) (args:Array Value) (ds:List (DataW H)) (p:List MemPlace)
 (hval:∀(j:Nat) t v,Tryz.f3.params[j]?=some t→args[j]?=some v→Value.okWide Tryz.prog W .any base t v)
 (hA:DataW.TrodAll enc Tryz.prog W 0 (fun _=>true) true Tryz.f3.params.toList args.toList ds p) (hS:Std W) :
 Calls Tryz.prog 3 args W fun e W'=>e=.returned (.bool true)∧Below W.heap.size W W':=by
 rw [Tryz.params3]at hA hval
 obtain⟨v0,vs0,d0,ds0,p0,q0,hargs,rfl,rfl,h0,r0⟩:=trodAll_cons hA
 obtain⟨v1,vs1,d1,ds1,p1,q1,rfl,rfl,rfl,h1,r1⟩:=trodAll_cons r0
 obtain⟨rfl,rfl,rfl⟩:=trodAll_nil r1
 obtain rfl:args=#[v0,v1]:=by cases args;simp_all
 have o0:=zss (hval 0 24 v0 rfl rfl) h0
 have o1:=zsy (hval 1 29 v1 rfl rfl) h1
 obtain⟨f,h,RA,Rc,R,rfl,hf,hh,hRc,hRm,hrR,hRb⟩:=o0
 obtain⟨cm,A,k,L,rfl,hcm,hLk,hkm,hrd,hok,hat⟩:=o1
 exact zh9 ⟨f,R,RA,Rc,h⟩ hRb cm hcm A k L W hS hrR hrd hok hat
theorem zdu (os:Os) (started:os.Started) (H:Type) (enc:TypeId × Value→H) (F:Stop.Interp) :
 ReturnsInHanded {} Tryz.checked os 3 .any ((OpenSpec.ofChange Rows.certAnySpec).preRow enc Tryz.prog Tryz.f3 Rows.certAnyRow.domain false Rows.certAnyRow.laid) (((OpenSpec.ofChange Rows.certAnySpec).at F).post enc Tryz.prog Tryz.f3 false true false false):=by
 have hx:∃ places,DataW.whole enc Tryz.prog ((laidWorld os).forCall (fun _ _=>0) ⟨#[],#[.agg #[.int .i64 0,.slice none 0 0,.int .i64 0],.agg #[.int .i64 0,.int .i64 0,.int .i64 0,.int .i64 0,.int .i64 0,.slice none 0 0]],[]⟩).memory Tryz.f3.params.toList Rows.certAnySpec.vars false (#[.agg #[.int .i64 0,.slice none 0 0,.int .i64 0],.agg #[.int .i64 0,.int .i64 0,.int .i64 0,.int .i64 0,.int .i64 0,.slice none 0 0]]:Array Value).toList 8=some ([.agg [.lit (.int .i64 0),.nil,.lit (.int .i64 0)],.agg [.agg [.lit (.int .i64 0),.lit (.int .i64 0),.lit (.int .i64 0),.lit (.int .i64 0),.lit (.int .i64 0)],.nil]],[],places):=⟨[],by kernel_rfl⟩
 obtain⟨places,hx⟩:=hx
 exact zqj (s:=Rows.certAnySpec) (tb:=4) #[.agg #[.int .i64 0,.slice none 0 0,.int .i64 0],.agg #[.int .i64 0,.int .i64 0,.int .i64 0,.int .i64 0,.int .i64 0,.slice none 0 0]] [] [] started (by kernel_rfl) Tryz.func3 (by kernel_rfl) (by kernel_rfl) (by kernel_rfl)
  (OpenSpec.preRow_of_cond 8 hx (by kernel_rfl) (fun k hk=>by cases hk) (by kernel_rfl) (zqi os _)) (by kernel_rfl) (by kernel_rfl) Tryz.underlying4 rfl (fun ds h=>by match ds,h with | [_,_],_=>rfl)
  (fun W base args ds p hval hA hS=>zbm W base args ds p hval hA hS)
theorem zk5:false=Rows.certAnyRow.goesBy Tryz.pinned.checked.prog:=by kernel_rfl
theorem zk7:Rows.certAnyRow.wf (OpenSpec.ofChange (OpenSpec.ofChange Rows.certAnySpec).bare)=true:=by kernel_rfl
theorem zk9:laidOutB Tryz.pinned.checked.prog=true:=by kernel_rfl
theorem zla:mapsRowed Tryz.pinned.checked.prog=true:=by kernel_rfl
theorem zlb:namedTie Tryz.pinned.checked.prog Rows.certAnyRow.named (OpenSpec.ofChange Rows.certAnySpec).bare.vars=true:=by kernel_rfl
theorem zlc:(Rows.certAnyRow.inPlace==Tryz.pinned.checked.prog.inPlace 3)=true:=by kernel_rfl
theorem zld:(Rows.certAnyRow.unfollowed==Tryz.pinned.checked.prog.unfollowed 3)=true:=by kernel_rfl
theorem zle:(Rows.certAnyRow.recurses==Tryz.pinned.checked.prog.recurses 3)=true:=by kernel_rfl
theorem zlf:(Rows.certAnyRow.named==Tryz.pinned.checked.prog.varsNamed 3)=true:=by kernel_rfl
theorem zlg:(Tryz.pinned.checked.prog.stops==[])=true:=by kernel_rfl
theorem zlh:(Tryz.pinned.checked.prog.stopKnobs==[])=true:=by kernel_rfl
theorem zli:Tryz.pinned.checked.prog.stopsHeard=true:=by kernel_rfl
theorem zlj:Tryz.pinned.checked.prog.mayEnter=true:=by kernel_rfl
theorem zlk:(Rows.certAnyRow.lifted==Tryz.pinned.checked.prog.liftsFinal)=true:=by kernel_rfl
theorem zll:(Rows.certAnyRow.pinned==Rows.certAnyRow.pinnedBy)=true:=by kernel_rfl
end Go.Proofs.YtpppegnojmnicaaGreatDoor
