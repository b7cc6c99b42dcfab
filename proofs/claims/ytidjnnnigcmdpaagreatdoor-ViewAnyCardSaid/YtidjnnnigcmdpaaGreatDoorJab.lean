/- Facts on the first of each: whatever they are, whoever they are of. -/
import Derived.Maps.OwnSet
import Derived.Lib.SlKeysI
set_option linter.unusedSimpArgs false
set_option linter.unusedVariables false
set_option linter.unnecessarySimpa false
namespace Go.Proofs.YtidjnnnigcmdpaaGreatDoor
open Go.Maps
section
variable {α : Type} (who : α → Int) (val : α → Value)
def firstD (L:List α):DataW Value:=L.foldl (fun D x=>if Maps.has D (.int .i64 (who x))=true then D else D.put (.int .i64 (who x)) (.held (val x))) (.map [])
theorem yT {L:List α} {x:α} (h:Maps.has (firstD who val L) (.int .i64 (who x))=true):firstD who val (L++[x])=firstD who val L:=by
 simp only [firstD,List.foldl_append,List.foldl_cons,List.foldl_nil]at h ⊢;rw [if_pos h]
theorem xc {L:List α} {x:α} (h:Maps.has (firstD who val L) (.int .i64 (who x))=false):firstD who val (L++[x])=(firstD who val L).put (.int .i64 (who x)) (.held (val x)):=by
 simp only [firstD,List.foldl_append,List.foldl_cons,List.foldl_nil]at h ⊢;rw [if_neg (by simp [h])]
def isI:Lit→Bool
 | .int .i64 _=>true
 | _=>false
theorem jd {k:Lit} (h:isI k=true):∃ x,k=.int .i64 x:=by
 cases k with
 | int q x=>cases q<;>first | exact⟨x,rfl⟩ | cases h
 | _=>cases h
theorem zbb {β:Type} {f g:β→Bool}:∀ l:List β,l.any f=false→(l.filter g).any f=false:=fun l h=>by
 rw [List.any_eq_false]at h ⊢
 exact fun x hx=>h x (List.mem_filter.1 hx).1
theorem yc (L:List α):(∃ es,firstD who val L=.map es∧es.Pairwise (fun p q=>p.1≠q.1)∧es.any (fun p=>!isI p.1)=false) ∧
 (∀ k:Int,Maps.has (firstD who val L) (.int .i64 k)=true↔∃ x∈L,who x=k) ∧
 (∀(k:Int) (x:α) (z:DataW Value),L.find? (fun x=>decide (who x=k))=some x→(firstD who val L).atKey (.int .i64 k) z=.held (val x)):=by
 suffices h:∀ n,n≤L.length→(∃ es,firstD who val (L.take n)=.map es∧es.Pairwise (fun p q=>p.1≠q.1)∧es.any (fun p=>!isI p.1)=false) ∧
  (∀ k:Int,Maps.has (firstD who val (L.take n)) (.int .i64 k)=true↔∃ x∈L.take n,who x=k) ∧
  (∀(k:Int) (x:α) (z:DataW Value),(L.take n).find? (fun x=>decide (who x=k))=some x→(firstD who val (L.take n)).atKey (.int .i64 k) z=.held (val x)) by
  have:=h L.length (Nat.le_refl _)
  rwa [List.take_length]at this
 intro n
 induction n with
 | zero=>intro _;exact⟨⟨[],by simp [firstD],List.Pairwise.nil,rfl⟩,fun k=>by simp [firstD,Maps.has],fun k x z hx=>by simp at hx⟩
 | succ n ih =>
  intro hn
  obtain⟨⟨es,he,hp,ha⟩,h2,h3⟩:=ih (by omega)
  have hts:L.take (n+1)=L.take n++[L[n]]:=by rw [List.take_succ_eq_append_getElem (by omega)]
  rw [hts]
  generalize L[n]=y at *
  generalize L.take n=M at *
  by_cases hb:Maps.has (firstD who val M) (.int .i64 (who y))=true
  ·rw [yT who val hb]
   refine⟨⟨es,he,hp,ha⟩,fun k=>?_,fun k x z hx=>?_⟩
   ·rw [h2]
    constructor
    ·rintro⟨x,hx,rfl⟩;exact⟨x,by simp [hx],rfl⟩
    ·rintro⟨x,hx,rfl⟩
     rcases List.mem_append.1 hx with hx | hx
     ·exact⟨x,hx,rfl⟩
     ·obtain rfl:x=y:=by simpa using hx
      exact(h2 _).1 hb
   ·rw [List.find?_append]at hx
    cases hf:M.find? (fun x=>decide (who x=k))with
    | some u=>rw [hf]at hx;simp at hx;subst hx;exact h3 k u z hf
    | none =>
     rw [hf]at hx
     have hy:who y=k:=by
      by_cases hy:who y=k
      ·exact hy
      ·simp [hy]at hx
     obtain⟨u,hu,huk⟩:=(h2 _).1 hb
     rw [List.find?_eq_none]at hf
     exact absurd (show who u=k by rw [huk,hy]) (by simpa using hf u hu)
  ·have hb':Maps.has (firstD who val M) (.int .i64 (who y))=false:=by simpa using hb
   have hm:IsMap (firstD who val M):=⟨es,he⟩
   rw [xc who val hb']
   refine⟨?_,fun k=>?_,fun k x z hx=>?_⟩
   ·have ht:Tidy (firstD who val M):=⟨es,he,hp⟩
    obtain⟨es',he',hp'⟩:=ht.put (k:=.int .i64 (who y)) (by simp [WideAt.IsKeyLit]) (.held (val y))
    refine⟨es',he',hp',?_⟩
    rw [he]at he'
    obtain rfl:ChangeMaps.putKey (.int .i64 (who y)) (.held (val y)) es=es':=by injection he'
    unfold ChangeMaps.putKey
    rw [any_insert,zbb _ ha]
    rfl
   ·by_cases hk:k=who y
    ·subst hk
     rw [has_put_same hm (by simp [WideAt.IsKeyLit])]
     exact⟨fun _=>⟨y,by simp,rfl⟩,fun _=>rfl⟩
    ·rw [has_put_other (by intro h;injection h with _ h;exact hk h),h2]
     constructor
     ·rintro⟨x,hx,rfl⟩;exact⟨x,by simp [hx],rfl⟩
     ·rintro⟨x,hx,rfl⟩
      rcases List.mem_append.1 hx with hx | hx
      ·exact⟨x,hx,rfl⟩
      ·obtain rfl:x=y:=by simpa using hx
       exact absurd rfl hk
   ·rw [List.find?_append]at hx
    cases hf:M.find? (fun x=>decide (who x=k))with
    | some u =>
     rw [hf]at hx;simp at hx;subst hx
     have hmu:=List.mem_of_find?_eq_some hf
     have hku:who u=k:=by simpa using List.find?_some hf
     have hne:k≠who y:=by
      intro e
      have:Maps.has (firstD who val M) (.int .i64 (who y))=true:=(h2 _).2 ⟨u,hmu,by rw [hku,e]⟩
      rw [this]at hb';cases hb'
     rw [atKey_put_other (by intro h;injection h with _ h;exact hne h)]
     exact h3 k u z hf
    | none =>
     rw [hf]at hx
     have hy:who y=k∧x=y:=by
      by_cases hy:who y=k
      ·simp [hy]at hx;exact⟨hy,hx.symm⟩
      ·simp [hy]at hx
     obtain⟨rfl,rfl⟩:=hy
     exact atKey_put_same hm (by simp [WideAt.IsKeyLit]) _ _
def eachK (L:List α):List Int:=(intKeys (firstD who (fun _=>undef) L)).mergeSort leI
theorem jw (L:List α) (v v':α→Value):intKeys (firstD who v L)=intKeys (firstD who v' L):=by
 suffices h:∀ n,n≤L.length→∃ es es',firstD who v (L.take n)=.map es∧firstD who v' (L.take n)=.map es'∧es.map (·.1)=es'.map (·.1) by
  obtain⟨es,es',e1,e2,e3⟩:=h L.length (Nat.le_refl _)
  rw [List.take_length]at e1 e2
  rw [e1,e2]
  show es.map (fun p=>intOf p.1)=es'.map fun p=>intOf p.1
  have:=congrArg (List.map intOf) e3
  simpa [List.map_map,Function.comp_def]using this
 intro n
 induction n with
 | zero=>intro _;exact⟨[],[],by simp [firstD],by simp [firstD],rfl⟩
 | succ n ih =>
  intro hn
  obtain⟨es,es',e1,e2,e3⟩:=ih (by omega)
  have hts:L.take (n+1)=L.take n++[L[n]]:=by rw [List.take_succ_eq_append_getElem (by omega)]
  rw [hts]
  generalize L[n]=y at *
  generalize L.take n=M at *
  have hany:∀ k:Lit,es.any (fun p=>p.1.sameKey k)=es'.any (fun p=>p.1.sameKey k):=fun k=>by
   have h1:es.any (fun p=>p.1.sameKey k)=(es.map (·.1)).any (fun p=>p.sameKey k):=by simp [List.any_map,Function.comp_def]
   have h2:es'.any (fun p=>p.1.sameKey k)=(es'.map (·.1)).any (fun p=>p.sameKey k):=by simp [List.any_map,Function.comp_def]
   rw [h1,h2,e3]
  have hhas:Maps.has (firstD who v M) (.int .i64 (who y))=Maps.has (firstD who v' M) (.int .i64 (who y)):=by rw [e1,e2];exact hany _
  by_cases hb:Maps.has (firstD who v M) (.int .i64 (who y))=true
  ·rw [yT who v hb,yT who v' (hhas▸hb)]
   exact⟨es,es',e1,e2,e3⟩
  ·have hb':Maps.has (firstD who v M) (.int .i64 (who y))=false:=by simpa using hb
   rw [xc who v hb',xc who v' (hhas▸hb'),e1,e2]
   refine⟨ChangeMaps.putKey (.int .i64 (who y)) (.held (v y)) es,ChangeMaps.putKey (.int .i64 (who y)) (.held (v' y)) es',rfl,rfl,?_⟩
   unfold ChangeMaps.putKey
   have hins:∀(k:Lit) (d d':DataW Value) (l l':List (Lit × DataW Value)),l.map (·.1)=l'.map (·.1)→(DataW.insert (k,d) l).map (·.1)=(DataW.insert (k,d') l').map (·.1):=by
    intro k d d' l
    induction l with
    | nil=>intro l' h;cases l' with
     | nil=>rfl
     | cons a r=>simp at h
    | cons a r ih=>intro l' h;cases l' with
     | nil=>simp at h
     | cons b r' =>
      simp at h
      obtain⟨h1,h2⟩:=h
      have hr:=ih r' (by simpa using h2)
      obtain⟨a1,a2⟩:=a
      obtain⟨b1,b2⟩:=b
      simp at h1
      subst h1
      unfold DataW.insert
      simp only
      split
      ·simp [h2]
      ·simpa using hr
   have hfil:∀(k:Lit) (l l':List (Lit × DataW Value)),l.map (·.1)=l'.map (·.1)→(l.filter (ChangeMaps.notKey k)).map (·.1)=(l'.filter (ChangeMaps.notKey k)).map (·.1):=by
    intro k l
    induction l with
    | nil=>intro l' h;cases l' with
     | nil=>rfl
     | cons a r=>simp at h
    | cons a r ih=>intro l' h;cases l' with
     | nil=>simp at h
     | cons b r' =>
      simp at h
      obtain⟨h1,h2⟩:=h
      have hr:=ih r' (by simpa using h2)
      have hk:ChangeMaps.notKey k a=ChangeMaps.notKey k b:=by unfold ChangeMaps.notKey;rw [h1]
      rw [List.filter_cons,List.filter_cons,hk]
      split
      ·simp [h1,hr]
      ·exact hr
   exact hins _ _ _ _ _ (hfil _ _ _ e3)
theorem zbi (L:List α) {ss:List Int} (h:ss.Perm (intKeys (firstD who val L))):ss.mergeSort leI=eachK who L:=by
 rw [jw who L val (fun _=>undef)]at h
 exact mergeSort_of_perm_i h
theorem zcq {H:Type} {es:List (Lit × DataW H)} (ha:es.any (fun p=>!isI p.1)=false) (x:Int):x∈intKeys (.map es)↔Maps.has (.map es) (.int .i64 x)=true:=by
 rw [Maps.has_eq,List.any_eq_true]
 show x∈es.map (fun p=>intOf p.1)↔_
 rw [List.mem_map]
 rw [List.any_eq_false]at ha
 constructor
 ·rintro⟨p,hp,rfl⟩
  obtain⟨a,h⟩:=jd (by simpa using ha p hp)
  exact⟨p,hp,by rw [h];simp [Lit.sameKey,intOf]⟩
 ·rintro⟨p,hp,hs⟩
  obtain⟨a,h⟩:=jd (by simpa using ha p hp)
  rw [h]at hs
  exact⟨p,hp,by rw [h];simpa [Lit.sameKey,intOf]using hs⟩
theorem xR (L:List α) (k:Int):k∈eachK who L↔∃ x∈L,who x=k:=by
 obtain⟨⟨es,he,hp,ha⟩,h2,-⟩:=yc who (fun _=>undef) L
 unfold eachK
 rw [List.mem_mergeSort,he,zcq ha,←he,h2]
theorem zbj (L:List α):(eachK who L).Pairwise (·<·):=by
 obtain⟨⟨es,he,hp,ha⟩,h2,-⟩:=yc who (fun _=>undef) L
 have hnd:(intKeys (firstD who (fun _=>undef) L)).Nodup:=by
  rw [he]
  show(es.map fun p=>intOf p.1).Nodup
  rw [List.any_eq_false]at ha
  refine List.pairwise_map.2 (hp.imp_of_mem fun {p q} hp' hq' hne e=>hne ?_)
  obtain⟨a,h1⟩:=jd (by simpa using ha p hp')
  obtain⟨b,h3⟩:=jd (by simpa using ha q hq')
  rw [h1,h3]at e ⊢
  exact congrArg _ e
 have h1:(eachK who L).Pairwise (·≤·):=by
  have:=List.pairwise_mergeSort (le:=leI) (fun a b c h1 h2=>by simp [leI]at *;omega) (fun a b=>by simp [leI];omega) (intKeys (firstD who (fun _=>undef) L))
  exact this.imp (fun h=>by simpa [leI]using h)
 have h3:(eachK who L).Nodup:=(List.mergeSort_perm _ leI).nodup_iff.2 hnd
 exact(h1.and h3).imp (fun⟨a,b⟩=>by omega)
def eachL (L:List α):List α:=(eachK who L).filterMap (fun k=>L.find? (fun x=>decide (who x=k)))
theorem jK (L:List α) {k:Int} (h:∃ x∈L,who x=k):∃ x,L.find? (fun x=>decide (who x=k))=some x∧x∈L∧who x=k:=by
 cases hf:L.find? (fun x=>decide (who x=k))with
 | some x=>exact⟨x,rfl,List.mem_of_find?_eq_some hf,by simpa using List.find?_some hf⟩
 | none =>
  obtain⟨x,hx,hk⟩:=h
  rw [List.find?_eq_none]at hf
  exact absurd hk (by simpa using hf x hx)
theorem kJ (L:List α):∀ ks:List Int,(∀ k∈ks,∃ x∈L,who x=k)→(ks.filterMap (fun k=>L.find? (fun x=>decide (who x=k)))).map who=ks:=by
 intro ks
 induction ks with
 | nil=>intro _;rfl
 | cons k r ih =>
  intro h
  obtain⟨x,hx,-,hk⟩:=jK who L (h k (by simp))
  rw [List.filterMap_cons,hx]
  simp only [List.map_cons,hk]
  rw [ih (fun j hj=>h j (by simp [hj]))]
theorem zao (L:List α):(eachL who L).map who=eachK who L:=kJ who L _ (fun k hk=>(xR who L k).1 hk)
theorem yG (L:List α):(eachL who L).length=(eachK who L).length:=by rw [←zao];simp
theorem kK (L:List α):∀ x∈eachL who L,x∈L:=fun x hx=>by
 obtain⟨k,_,hk⟩:=List.mem_filterMap.1 hx
 exact List.mem_of_find?_eq_some hk
theorem kL (L:List α) (i:Nat) (hi:i<(eachK who L).length) (hi':i<(eachL who L).length):L.find? (fun x=>decide (who x=(eachK who L)[i]))=some (eachL who L)[i]:=by
 have hw:who (eachL who L)[i]=(eachK who L)[i]:=by
  have h1:((eachL who L).map who)[i]?=(eachK who L)[i]?:=by rw [zao]
  rw [List.getElem?_map,List.getElem?_eq_getElem hi',List.getElem?_eq_getElem hi]at h1
  simpa using h1
 obtain⟨k,_,hk⟩:=List.mem_filterMap.1 (List.getElem_mem (l:=eachL who L) hi')
 have hkw:who (eachL who L)[i]=k:=by simpa using List.find?_some hk
 rw [←hw,hkw]
 exact hk
theorem xX (L:List α):Maps.size (firstD who val L)=(eachK who L).length:=by
 obtain⟨⟨es,he,hp,ha⟩,-,-⟩:=yc who val L
 unfold eachK
 rw [List.length_mergeSort,jw who L _ val,he]
 show es.length=(es.map fun p=>intOf p.1).length
 simp
theorem qZ (L:List α):Maps.size (firstD who val L)≤L.length:=by
 suffices h:∀ n,n≤L.length→Maps.size (firstD who val (L.take n))≤n by
  have:=h L.length (Nat.le_refl _)
  rwa [List.take_length]at this
 intro n
 induction n with
 | zero=>intro _;simp [firstD,Maps.size]
 | succ n ih =>
  intro hn
  have:=ih (by omega)
  have hts:L.take (n+1)=L.take n++[L[n]]:=by rw [List.take_succ_eq_append_getElem (by omega)]
  rw [hts]
  obtain⟨⟨es,he,hp,ha⟩,-,-⟩:=yc who val (L.take n)
  generalize L[n]=y at *
  generalize L.take n=M at *
  by_cases hb:Maps.has (firstD who val M) (.int .i64 (who y))=true
  ·rw [yT who val hb];omega
  ·have hb':Maps.has (firstD who val M) (.int .i64 (who y))=false:=by simpa using hb
   rw [xc who val hb',Maps.size_put ⟨es,he,hp⟩]
   split<;>omega
theorem xN (L:List α):(eachK who L).length≤L.length:=by
 rw [←xX who (fun _=>undef)];exact qZ who _ L
theorem zbk (L:List α) (ks:List Int) (hk:ks.Pairwise (·<·)) (h:∀ k,k∈ks↔∃ x∈L,who x=k):eachK who L=ks:=by
 have p:(eachK who L).Perm ks:=(List.perm_ext_iff_of_nodup ((zbj who L).imp (fun h=>by omega)) (hk.imp (fun h=>by omega))).2 fun k=>by rw [xR,h]
 exact p.eq_of_pairwise (le:=(·<·)) (fun a b _ _ h1 h2=>by omega) (zbj who L) hk
end
end Go.Proofs.YtidjnnnigcmdpaaGreatDoor
namespace Go.Proofs.YtidjnnnigcmdpaaGreatDoor
section
variable {α : Type} (who : α → Int)
def upTo (M:List α) (N:Nat):List α:=(List.range N).filterMap (fun w=>M.find? (fun x=>decide (who x=((w:Nat):Int))))
theorem xv (M:List α) (w:Nat):upTo who M (w+1)=upTo who M w++(M.find? (fun x=>decide (who x=(w:Int)))).toList:=by
 unfold upTo
 rw [List.range_succ,List.filterMap_append,List.filterMap_cons,List.filterMap_nil]
 cases M.find? (fun x=>decide (who x=(w:Int)))<;>rfl
theorem zcr (M:List α) (N:Nat) (h:∀ x∈M,0≤who x∧who x<(N:Int)):eachK who M=((List.range N).map (fun w=>((w:Nat):Int))).filter (fun k=>(M.find? (fun x=>decide (who x=k))).isSome):=by
 refine zbk who M _ ?_ ?_
 ·refine List.Pairwise.filter _ ?_
  rw [List.pairwise_map]
  exact List.pairwise_lt_range.imp (fun h=>by omega)
 ·intro k
  rw [List.mem_filter,List.mem_map]
  constructor
  ·rintro⟨-,hk⟩
   obtain⟨x,hx⟩:=Option.isSome_iff_exists.1 hk
   exact⟨x,List.mem_of_find?_eq_some hx,by simpa using List.find?_some hx⟩
  ·rintro⟨x,hx,rfl⟩
   refine⟨⟨(who x).toNat,?_,?_⟩,?_⟩
   ·have:=h x hx;rw [List.mem_range];omega
   ·have:=h x hx;omega
   ·rw [List.find?_isSome];exact⟨x,hx,by simp⟩
theorem xt (M:List α) (N:Nat) (h:∀ x∈M,0≤who x∧who x<(N:Int)):eachL who M=upTo who M N:=by
 unfold eachL upTo
 rw [zcr who M N h,List.filterMap_filter,List.filterMap_map]
 congr 1
 funext w
 simp only [Function.comp]
 cases M.find? (fun x=>decide (who x=(w:Int)))<;>simp
end
end Go.Proofs.YtidjnnnigcmdpaaGreatDoor
