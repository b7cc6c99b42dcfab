/- A builder beside a row of texts; (*strings.Builder).Reset. -/
import Derived.Test.YtkpnheenacchhaaGreatDoorPzz
import Derived.Test.YtkpnheenacchhaaGreatDoorPas
import Derived.Test.YtkpnheenacchhaaGreatDoorPaj
import Derived.Test.YtkpnheenacchhaaGreatDoorPan
set_option maxHeartbeats 4000000
set_option maxRecDepth 100000
set_option linter.unusedSimpArgs false
set_option linter.unusedVariables false
namespace Go.Proofs.YtkpnheenacchhaaGreatDoor
open Go.RowKit
theorem kh {w w':World} {base n:Nat} {e e':TypeId} {v:Value} {xs:List Value} {b:Nat} (h:w.ownsRow base e 1 v n xs) (k:Lib.OthersKept e' (some b) w w') (hne:e≠e') (hb:v.ownBlock≠some b):w'.ownsRow base e 1 v n xs:=by
 obtain⟨h1,h2⟩:=h
 refine⟨h1,?_⟩
 rcases h2 with h2 | ⟨g',cap,cur,rfl,hb',hh,hc⟩
 ·exact .inl h2
 ·exact .inr ⟨g',cap,cur,rfl,hb',k g' _ hh (fun hg=>hb hg) (fun c fz hcc=>by injection hcc with _ h3 _;exact hne h3),hc⟩
theorem zd3 {w:World} {base n:Nat} {e T e':TypeId} {v:Value} {xs bs:List Value} {B b:Nat} (h:w.ownsRow base e 1 v n xs) (hb:Lib.IsBuilderF T e' B b bs w) (hne:e≠T):v.ownBlock≠some b:=by
 intro hv
 rcases h.2 with ⟨rfl,_⟩ | ⟨g',cap,cur,rfl,_,hh,_⟩
 ·cases hv
 ·injection hv with hv
  subst hv
  rcases hb with ⟨_,u,h3,_⟩ | ⟨_,u,h3,_⟩ <;>
   ·rw [hh]at h3
    injection h3 with h3
    injection h3 with _ h4 _
    exact hne h4
theorem zfq {S:Nat→Prop} {w w':World} {base:Nat} {e:TypeId} {size n:Nat} {v:Value} {xs:List Value} (h:w.ownsRowF base e size v n xs) (k:Kp S w w') (hv:∀ g,v.ownBlock=some g→¬S g):w'.ownsRowF base e size v n xs:=by
 obtain⟨h1,h2⟩:=h
 refine⟨h1,?_⟩
 rcases h2 with h2 | ⟨g',cap,cur,fz,rfl,hb,hh,hc⟩
 ·exact .inl h2
 ·have hlt:g'<w.heap.size:=(Array.getElem?_eq_some_iff.1 hh).1
  exact .inr ⟨g',cap,cur,fz,rfl,hb,(k.block g' hlt (hv g' rfl)).trans hh,hc⟩
theorem zjz {w w':World} {base n:Nat} {e T e':TypeId} {v p:Value} {xs bs:List Value} {B b:Nat} (h:w.ownsRow base e 1 v n xs) (hb:Lib.BuilderAtF T e' B b p bs w) (hne:e≠T) (hne':e≠e') (k:Kp (fun j=>v.ownBlock=some j) w w'):Lib.BuilderAtF T e' B b p bs w':=by
 have hlt:=hb.lt
 obtain⟨h1,u,h2,h3,h4⟩:=hb
 have hvt:∀ g c t fz,w.heap[g]?=some (.cells c t fz)→e≠t→v.ownBlock≠some g:=by
  intro g c t fz hg ht hv
  rcases h.2 with ⟨rfl,_⟩ | ⟨g',cap,cur,rfl,_,hh,_⟩
  ·cases hv
  ·injection hv with hv
   subst hv
   rw [hh]at hg
   injection hg with hg
   injection hg with _ h5 _
   exact ht h5
 refine⟨h1,u,(k.block b hlt (hvt b _ _ _ h2 hne)).trans h2,zfq h3 k (fun g hg=>?_),h4⟩
 rcases h3.2 with ⟨rfl,_⟩ | ⟨g2,cap,cur,fz,rfl,_,hgg,_⟩
 ·cases hg
 ·injection hg with hg
  subst hg
  exact hvt _ _ _ _ hgg hne'
theorem isb_kp {w w':World} {base n:Nat} {e T e':TypeId} {v:Value} {xs bs:List Value} {B b:Nat} (h:w.ownsRow base e 1 v n xs) (hb:Lib.IsBuilderF T e' B b bs w) (hne:e≠T) (hne':e≠e') (k:Kp (fun j=>v.ownBlock=some j) w w'):Lib.IsBuilderF T e' B b bs w' :=
 hb.elim (fun x=>.inl (zjz h x hne hne' k)) (fun x=>.inr (zjz h x hne hne' k))
theorem zj0 {T e':TypeId} {bs:List Value} {B b:Nat} {w:World} (hb:Lib.IsBuilderF T e' B b bs w):∃ p v,w.heap[b]?=some (.cells #[p,v] T (0,0))∧B≤b∧b<w.heap.size:=by
 rcases hb with h | h <;>
  ·have hl:=h.lt
   obtain⟨h1,v,h2,_⟩:=h
   exact⟨_,v,h2,h1,hl⟩
theorem zmv (B b:Nat) (bs:List Value) (w:World) (h:Lib.IsBuilderF 243 5 B b bs w) :
 Calls Tryz.prog 147 #[.pointer (some ⟨b,0,none⟩)] w fun e w'=>e=.returned (.tuple #[])∧Lib.IsBuilderF 243 5 B b [] w'∧Below B w w'∧Kp (fun j=>j=b) w w':=by
 obtain⟨p,v,hh,hB,hlt⟩:=zj0 h
 have hc0:w.cell? ⟨b,0,none⟩=some p:=by simp [World.cell?,hh]
 have hc1:w.cell? ⟨b,1,none⟩=some v:=by simp [World.cell?,hh]
 have hf0:w.frozen? ⟨b,0,none⟩=false:=by simp [World.frozen?,hh]
 have hf1:w.frozen? ⟨b,1,none⟩=false:=by simp [World.frozen?,hh]
 have hs:w.shape? b=some (243,2):=by simp [World.shape?,hh]
 go_enter Tryz.func147,Tryz.ntmps147
 go_wp2_with fail
 go_end0
 have hw:((w.setCell ⟨b,0,none⟩ (.pointer none)).setCell ⟨b,1,none⟩ (.slice none 0 0)).heap[b]?=some (.cells #[.pointer none,.slice none 0 0] 243 (0,0)):=by
  simp [World.setCell,Array.getElem?_modify,hh]
 refine⟨rfl,.inl ⟨hB,.slice none 0 0,hw,World.ownsRowF_nil _ _ _ _,by simp [Value.ownBlock]⟩,?_,?_⟩
 ·exact((Below.refl B w).setCell (p:=⟨b,0,none⟩) hB _).setCell (p:=⟨b,1,none⟩) hB _
 ·exact yH (S:=fun j=>j=b) (yH (S:=fun j=>j=b) (zQ _ w) (p:=⟨b,0,none⟩) (.inl rfl) _) (p:=⟨b,1,none⟩) (.inl rfl) _
theorem zgu (l:List UInt8) (c:UInt8):Lib.byteCells l++[.int .u8 (c.toNat:Int)]=Lib.byteCells (l++[c]):=by simp [Lib.byteCells]
theorem zci (l:List UInt8):(Lib.byteCells l).length=l.length:=by simp [Lib.byteCells]
theorem zgv {S:List UInt8} {k:Nat} {on:Bool} {cur:List UInt8} {done:List (List UInt8)} (h:SplP S k on cur done) (hk:1≤k):on=true:=by
 rcases h with ⟨h,_⟩ | ⟨_,h,_⟩
 ·omega
 ·exact h
theorem zmw {S:List UInt8} {on:Bool} {cur:List UInt8} {done:List (List UInt8)} (h:SplP S 0 on cur done):on=false∧cur=[]∧done=[]:=by
 rcases h with ⟨_,h1,h2,h3⟩ | ⟨h,_⟩
 ·exact⟨h1,h2,h3⟩
 ·omega
theorem zac (s:ByteArray) (hs:s.size≤100000000) (w:World) :
 Calls Tryz.prog 80 #[.string s] w fun e w'=>SplOut s.data.toList w e w'∧Grew w w':=by
 obtain⟨i1,hj,hy0,hy1,hy2⟩:=info_parts zjx
 have hsl:s.data.toList.length=s.size:=by simp
 have HSL:=hQ9 hsl
 clear hsl
 have cC:=zmi s hs
 cases hS:splitF s.data.toList with
 | none =>
  simp only [hS,cntRes]at cC
  have CC:=hQ9 cC
  clear cC
  go_enter Tryz.func80,Tryz.ntmps80
  go_wp2_with(first | (go_at_call 145;refine(CC.out _).mono ?_;rintro e w' ⟨rfl,hw⟩;have hw:=hw.symm;subst hw))
  go_ret2
  exact⟨.inl ⟨hS,rfl⟩,Below.refl _ _⟩
 | some L =>
  simp only [hS,cntRes]at cC
  have CC:=hQ9 cC
  clear cC
  have HS:=hQ9 hS
  clear hS
  by_cases hbig:4096<L.length
  ·have hb1:(4096:Int)<(L.length:Int):=by omega
   have HB:=hQ9 hbig
   clear hbig
   go_enter Tryz.func80,Tryz.ntmps80
   go_wp2_with(first | (go_at_call 145;refine(CC.out _).mono ?_;rintro e w' ⟨rfl,hw⟩;have hw:=hw.symm;subst hw))
   go_ret2
   exact⟨.inr ⟨L,HS.out,.inl ⟨HB.out,rfl⟩⟩,Below.refl _ _⟩
  ·have hb1:¬(4096:Int)<(L.length:Int):=by omega
   have HB:=hQ9 (show L.length≤4096 by omega)
   clear hbig
   obtain⟨w1,hmk,hown1,hgrow1⟩:=run_make_own (P:=Tryz.prog) w w.heap.size 161 9 i1 (.string ⟨#[]⟩) 1 Tryz.underlying161 hj hy0 hy1 .i64 .i64 L.length (by have:=HB.out;rw [hy2];omega) (by have:=HB.out;unfold maxLen;omega) (zN9 _)
   have hg1:Grew w w1:=(Below.refl _ w).grown hgrow1 (zN9 _) (fun j hj=>by cases hj)
   clear hgrow1
   have hg1z:=hg1.size
   go_enter Tryz.func80,Tryz.ntmps80
   go_wp2_with(first | (go_at_call 145;refine(CC.out _).mono ?_;rintro e w' ⟨rfl,hw⟩;have hw:=hw.symm;subst hw))
   have hb0:Lib.IsBuilderF 243 5 w.heap.size w1.heap.size (Lib.byteCells []) (w1.alloc (.cells #[.pointer none,.slice none 0 0] 243 (0,0))) :=
    .inl ⟨hg1z,.slice none 0 0,heap_alloc_new w1 _,World.ownsRowF_nil _ _ _ _,by simp [Value.ownBlock]⟩
   have hown2:=hown1.alloc (.cells #[.pointer none,.slice none 0 0] 243 (0,0))
   have hg2:Grew w (w1.alloc (.cells #[.pointer none,.slice none 0 0] 243 (0,0))):=hg1.alloc hg1z _
   have HBW:=hQ9 hg1z
   clear hmk hown1 hg1 CC hg1z
   obtain⟨bb,hbb⟩:∃ bb,w1.heap.size=bb:=⟨_,rfl⟩
   have HBB:=hQ9 hbb
   rw [hbb]at hb0 ⊢
   clear hbb
   go_loopw [6,8] (fun ov iv wr=>∃(k:Nat) (on:Bool) (cur:List UInt8) (done:List (List UInt8)),k≤s.size∧cur.length≤k∧done.length≤k∧iv=.int .i64 k∧Hid (SplP s.data.toList k on cur done)∧wr.ownsRow w.heap.size 9 1 ov done.length (strL (txt done))∧Lib.IsBuilderF 243 5 w.heap.size bb (Lib.byteCells cur) wr∧Grew w wr) (fun _ iv _=>s.size-(intOf iv).toNat)
   case atStart=>exact⟨0,false,[],[],Nat.zero_le _,zN9 _,zN9 _,rfl,hQ9 (.inl ⟨rfl,rfl,rfl,rfl⟩),hown2,hb0,hg2⟩
   case round =>
    obtain⟨k,on,cur,done,hk,hck,hdk,rfl,HP,hoo,hbu,hg⟩:=hrel
    have hgz:=hg.size
    have hnb:=zd3 hoo hbu (by decide)
    have HNB:=hQ9 hnb
    clear hnb
    by_cases hlt:k<s.size
    ·have hk0:(0:Int)≤(k:Int):=by omega
     have hk1:(k:Int)<(s.size:Int):=by omega
     have e1:IntKind.i64.wrap ((k:Int)+1)=((k+1:Nat):Int):=by rw [IntWalk.i64_in _ (by omega)];omega
     have HLT:=hQ9 (show k<s.data.toList.length by rw [HSL.out];exact hlt)
     have HK1:=hQ9 hk1
     by_cases ha:((s[k]'hlt).toNat:Int)=124
     ·have hc:=hQ9 (show s.data.toList[k]'HLT.out=124 by rw [yr s k hlt HLT.out];exact u8_eq _ 124 (by omega) ha)
      by_cases hkz:k=0
      ·subst hkz
       obtain⟨rfl,rfl,rfl⟩:=zmw HP.out
       have HN:=hQ9 (zh2 HP.out HLT.out hc.out)
       go_wp2_with fail
       go_roundw
       case rel=>exact⟨1,true,[],[],by have:=HK1.out;omega,by simp,by simp,by go_num,HN,hoo,hbu,hg⟩
       case measure=>have h9:=HK1.out;simp [intOf];omega
      ·have hkp:(0:Int)<(k:Int):=by omega
       obtain rfl:=zgv HP.out (by omega)
       have HN:=hQ9 (zmk HP.out HLT.out hc.out)
       have cS:=Tryz.Builder_String_any_k w.heap.size bb cur wr hbu hgz
       have CS:=hQ9 cS
       clear cS
       go_wp2_with(first
        | (go_at_call 146;refine(CS.out).mono ?_;rintro e w2 ⟨rfl,hbu2,hbl2,hok2⟩;have hoo2:=kh hoo hok2 (by decide) HNB.out;have hg2:Grew w w2:=hg.trans hbl2;have hg2z:=hg2.size)
        | (at_builtin;refine zx rfl (.tmp 38) (.tmp 40) 161 rfl w.heap.size 9 i1 (.string ⟨#[]⟩) 16 Tryz.underlying161 hj hy0 hy1 hy2 rfl _ done.length (strL (txt done)) rfl (hoo2.alloc _) (w2.heap.size+1) (some ⟨w2.heap.size,0,none⟩) 1 1 [.string ⟨cur.toArray⟩] rfl rfl (yb w2 9 #[.string ⟨cur.toArray⟩] (0,0)) (yG rfl) (by unfold maxLen;omega) (by omega) (by simp;omega) ?_;intro v6 w6 hown6 hgrow6 hat6;have hbu6:=isb_kp hoo2 hbu2 (by decide) (by decide) (yX (q7 (zQ _ w2) _) hgrow6 (fun g h=>.inl h));have hg6:=yi hg2 hgrow6 (zu hoo2))
        | (go_at_call 147;refine(zmv _ _ _ _ hbu6).mono ?_;rintro e w7 ⟨rfl,hbu7,hbl7,hkp7⟩))
       have hoo7:=zo hown6 hkp7 (fun g hg hj=>zd3 hown6 hbu6 (by decide) (by rw [hg,hj]))
       rw [←zdy]at hoo7
       have hg7:Grew w w7:=hg6.trans hbl7
       go_roundw
       case rel=>exact⟨k+1,true,[],done++[cur],by have:=HK1.out;omega,by simp,by simp;omega,by go_num,HN,by rw [List.length_append];exact hoo7,hbu7,hg7⟩
       case measure=>have h9:=HK1.out;simp [intOf];omega
     ·have hda:(((s[k]'hlt).toNat:Int)==124)=false:=by simpa using ha
      have hdb:decide (((s[k]'hlt).toNat:Int)=124)=false:=zF9 ha
      have hna:=hQ9 (show s.data.toList[k]'HLT.out≠124 by rw [yr s k hlt HLT.out];intro h;exact ha (by rw [h];rfl))
      have hkz:1≤k:=by
       rcases Nat.eq_zero_or_pos k with h3 | h3
       ·subst h3
        have:=zmj HLT.out hna.out
        rw [HS.out]at this;cases this
       ·exact h3
      obtain rfl:=zgv HP.out hkz
      by_cases hbs:((s[k]'hlt).toNat:Int)=92
      ·have hc92:=hQ9 (show s.data.toList[k]'HLT.out=92 by rw [yr s k hlt HLT.out];exact u8_eq _ 92 (by omega) hbs)
       have hend:k+1<s.size:=by
        rcases Nat.lt_or_ge (k+1) s.size with h3 | h3
        ·exact h3
        ·have:=zmo HP.out (by rw [HSL.out];omega) hc92.out
         rw [HS.out]at this;cases this
       obtain⟨m,hm⟩:∃ m,k+1=m:=⟨_,rfl⟩
       rw [hm]at e1 hend
       have hm0:(0:Int)≤(m:Int):=by omega
       have hm1:(m:Int)<(s.size:Int):=by omega
       have HM:=hQ9 hm
       have e3:IntKind.i64.wrap ((m:Int)+1)=((m+1:Nat):Int):=by rw [IntWalk.i64_in _ (by omega)];omega
       have HM1:=hQ9 hm1
       have hsp:spec (s[m]'hend)=true:=by
        cases hq:spec (s[m]'hend)with
        | true=>rfl
        | false =>
         subst hm
         have:=zmn HP.out (by rw [HSL.out];exact hend) hc92.out (by rw [yr s (k+1) hend];exact hq)
         rw [HS.out]at this;cases this
       have HN:Hid (SplP s.data.toList (m+1) true (cur++[s[m]'hend]) done):=hQ9 (by
        subst hm
        exact zmm HP.out (by rw [HSL.out];exact hend) hc92.out (by rw [yr s (k+1) hend];exact hsp))
       have hcm:cur.length≤m:=by omega
       have hdm:done.length≤m:=by omega
       clear hsp hm
       have cW:=Tryz.Builder_WriteByte_k w.heap.size bb (Lib.byteCells cur) ((s[m]'hend).toNat:Int) wr hbu (by rw [zci];omega) hgz
       rw [zgu]at cW
       have CW:=hQ9 cW
       clear cW
       go_wp2_with(first
        | (go_at_call 148;refine(CW.out).mono ?_;rintro e w7 ⟨rfl,hbu7,hbl7,hok7⟩))
       have hoo7:=kh hoo hok7 (by decide) HNB.out
       have hg7:Grew w w7:=hg.trans hbl7
       go_roundw
       case rel=>exact⟨m+1,true,cur++[s[m]'hend],done,by have:=HM1.out;omega,by simp;omega,by omega,by go_num,HN,hoo7,.inr hbu7,hg7⟩
       case measure=>have h9:=HM1.out;have h8:=HM.out;simp [intOf];omega
      ·have hdc:(((s[k]'hlt).toNat:Int)==92)=false:=by simpa using hbs
       have hdd:decide (((s[k]'hlt).toNat:Int)=92)=false:=zF9 hbs
       have HN:=hQ9 (zml HP.out HLT.out hna.out (by rw [yr s k hlt HLT.out];intro h;exact hbs (by rw [h];rfl)))
       have cW:=Tryz.Builder_WriteByte_k w.heap.size bb (Lib.byteCells cur) ((s[k]'hlt).toNat:Int) wr hbu (by rw [zci];omega) hgz
       rw [zgu]at cW
       have CW:=hQ9 cW
       clear cW
       go_wp2_with(first
        | (go_at_call 148;refine(CW.out).mono ?_;rintro e w7 ⟨rfl,hbu7,hbl7,hok7⟩))
       have hoo7:=kh hoo hok7 (by decide) HNB.out
       have hg7:Grew w w7:=hg.trans hbl7
       go_roundw
       case rel=>exact⟨k+1,true,cur++[s[k]'hlt],done,by have:=HK1.out;omega,by simp;omega,by omega,by go_num,HN,hoo7,.inr hbu7,hg7⟩
       case measure=>have h9:=HK1.out;simp [intOf];omega
    ·obtain rfl:k=s.size:=by omega
     have hend:=zmp (S:=s.data.toList) (by rw [HSL.out];exact HP.out)
     rw [HS.out]at hend
     cases on
     ·have hd0:done=[]:=by rcases HP.out with ⟨_,_,_,h⟩ | ⟨_,h,_⟩;exact h;cases h
      subst hd0
      injection hend with hend
      rw [if_neg (by simp)]at hend
      subst hend
      obtain⟨Ao,co,rfl,_,_,_⟩:=zU hoo
      go_wp2_with fail
      go_ret2
      exact⟨.inr ⟨[],HS.out,.inr ⟨by simp,_,rfl,hoo⟩⟩,hg⟩
     ·injection hend with hend
      rw [if_pos rfl]at hend
      have hLp:(0:Int)<(L.length:Int):=by rw [hend];simp
      have HE:=hQ9 hend
      clear hend
      have cS:=Tryz.Builder_String_any_k w.heap.size bb cur wr hbu hgz
      have CS:=hQ9 cS
      clear cS
      go_wp2_with(first
       | (go_at_call 146;refine(CS.out).mono ?_;rintro e w2 ⟨rfl,hbu2,hbl2,hok2⟩;have hoo2:=kh hoo hok2 (by decide) HNB.out;have hg2:Grew w w2:=hg.trans hbl2;have hg2z:=hg2.size)
       | (at_builtin;refine zx rfl (.tmp 53) (.tmp 55) 161 rfl w.heap.size 9 i1 (.string ⟨#[]⟩) 16 Tryz.underlying161 hj hy0 hy1 hy2 rfl _ done.length (strL (txt done)) rfl (hoo2.alloc _) (w2.heap.size+1) (some ⟨w2.heap.size,0,none⟩) 1 1 [.string ⟨cur.toArray⟩] rfl rfl (yb w2 9 #[.string ⟨cur.toArray⟩] (0,0)) (yG rfl) (by unfold maxLen;omega) (by omega) (by simp;omega) ?_;intro v6 w6 hown6 hgrow6 hat6;have hg6:=yi hg2 hgrow6 (zu hoo2);obtain⟨A6,c6,rfl,_,_,_⟩:=zU hown6))
      rw [←zdy]at hown6
      go_ret2
      exact⟨.inr ⟨L,HS.out,.inr ⟨HB.out,_,rfl,by rw [HE.out,List.length_append];exact hown6⟩⟩,hg6⟩
theorem zj1 (l:List UInt8):Lib.trimPrefix l [45]=body l:=by
 unfold Lib.trimPrefix body minus
 cases l with
 | nil=>rfl
 | cons a t =>
  by_cases h:a=45
  ·subst h;simp [Lib.hasPrefix]
  ·simp [Lib.hasPrefix,h,Ne.symm h]
theorem zh3 {l:List UInt8} (h:l≠[48]):isNumB l=(decide (body l≠[])&&decide ((body l).head?≠some 48)&&(body l).all dig):=by
 unfold isNumB isDec
 by_cases hb:body l=[48]
 ·have hm:minus l=true:=by
   cases hm:minus l with
   | true=>rfl
   | false=>exact absurd (by unfold body at hb;rw [hm]at hb;exact hb) h
  rw [hb,hm];rfl
 ·simp [hb]
theorem zj2 (s:ByteArray) (l:List UInt8):(s=⟨l.toArray⟩)↔s.data.toList=l:=by
 constructor
 ·rintro rfl;simp
 ·intro h;apply ByteArray.ext;rw [←h]
theorem zd4 {s:ByteArray} (h:s.size=0):s=⟨#[]⟩:=by
 cases s with
 | mk d=>congr 1;exact Array.eq_empty_of_size_eq_zero h
theorem zbm {s:ByteArray} (h:0<s.size):s.toList.isEmpty=false:=by
 rw [ByteArray.toList_eq]
 cases hl:s.data.toList with
 | nil=>exact absurd (by have h3:=congrArg List.length hl;simpa using h3) (show s.size≠0 by omega)
 | cons _ _=>rfl
theorem zd5 {s:ByteArray} (h:0<s.size):¬s.toList=[]:=fun e=>by
 have:=zbm h
 rw [e]at this;simp at this
theorem xY (s:ByteArray):s.data.toList.length=s.size:=by simp
theorem zoq {s:ByteArray} (h:0<s.size):s.data.toList.head?=some s[0]:=by
 rw [List.head?_eq_getElem?,List.getElem?_eq_getElem (by rw [xY];exact h)];rfl
theorem zmx {p:UInt8→Bool} (s:ByteArray) (k:Nat) (h:k<s.size) (h1:(s.data.toList.take k).all p=true) (h2:p s[k]=true):(s.data.toList.take (k+1)).all p=true:=by
 rw [zch s k h,List.all_append,h1];simp [h2]
theorem zor {p:UInt8→Bool} (s:ByteArray) (k:Nat) (h:k<s.size) (h2:p s[k]=false):s.data.toList.all p=false:=by
 rw [List.all_eq_false]
 exact⟨s[k],by
  have hk:k<s.data.toList.length:=by rw [xY];exact h
  have:=List.getElem_mem hk
  exact this,by simp [h2]⟩
theorem dig_int {c:UInt8}:dig c=true↔(48≤(c.toNat:Int)∧(c.toNat:Int)≤57):=by
 unfold dig;simp;omega
theorem zmy (s:ByteArray) (hs:s.size≤9223372036854775807) (w:World):Calls Tryz.prog 149 #[.string s] w fun e w'=>e=.returned (.bool (isNumB s.data.toList))∧w'=w:=by
 by_cases h0:s.data.toList=[48]
 ·obtain rfl:=(zj2 s [48]).2 h0
  rw [show isNumB ((⟨[48].toArray⟩:ByteArray).data.toList)=true from rfl]
  go_enter Tryz.func149,Tryz.ntmps149
  go_wp2_with fail
  go_ret
  exact⟨rfl,rfl⟩
 ·rw [zh3 h0]
  have h1:(s.toList==[48])=false:=by rw [ByteArray.toList_eq];simpa using h0
  have h2:(!s.toList==[48])=true:=by rw [h1];rfl
  have cT:=Tryz.strings_TrimPrefix s ⟨#[45]⟩ w
  rw [show(⟨#[45]⟩:ByteArray).data.toList=[45] from rfl,zj1]at cT
  have htl:(body s.data.toList).length≤s.size:=by
   unfold body
   have:s.data.toList.length=s.size:=by simp
   split
   ·rw [List.length_tail];omega
   ·omega
  obtain⟨t,ht⟩:∃ t:ByteArray,t=⟨(body s.data.toList).toArray⟩:=⟨_,rfl⟩
  have ht2:t.data.toList=body s.data.toList:=by rw [ht]
  rw [←ht2]at htl ⊢
  rw [←ht]at cT
  rw [xY]at htl
  have CT:=hQ9 cT
  clear cT h0 ht ht2
  by_cases hz:t.size=0
  ·obtain rfl:=zd4 hz
   go_enter Tryz.func149,Tryz.ntmps149
   go_wp2_with(first | (go_at_call 201;refine(CT.out).mono ?_;rintro e w' ⟨rfl,rfl⟩))
   go_ret
   exact⟨rfl,rfl⟩
  ·have hp:0<t.size:=by omega
   have hp1:(0:Int)<(t.size:Int):=by omega
   have hie:=zbm hp
   have hie2:=zd5 hp
   have hH:=hQ9 (zoq hp)
   have hN:Hid (t.data.toList≠[]):=hQ9 (fun e=>by have:=xY t;rw [e]at this;simp at this;omega)
   by_cases hc:(t[0].toNat:Int)=48
   ·go_enter Tryz.func149,Tryz.ntmps149
    go_wp2_with(first | (go_at_call 201;refine(CT.out).mono ?_;rintro e w' ⟨rfl,rfl⟩))
    go_ret
    refine⟨xJ ?_,rfl⟩
    rw [hH.out,u8_eq _ 48 (by omega) hc]
    simp
   ·have hcb:((t[0].toNat:Int)==48)=false:=by simpa using hc
    have hcd:decide ((t[0].toNat:Int)=48)=false:=by simpa using hc
    have hR:Hid ((decide (t.data.toList≠[])&&decide (t.data.toList.head?≠some 48)&&t.data.toList.all dig)=t.data.toList.all dig):=hQ9 (by
     rw [decide_eq_true hN.out,decide_eq_true (by
      rw [hH.out];intro e;injection e with e;rw [e]at hc;exact hc rfl)];rfl)
    rw [hR.out]
    obtain⟨r,hr⟩:∃ r,t.data.toList.all dig=r:=⟨_,rfl⟩
    rw [hr]
    have HR:=hQ9 hr
    clear hr
    go_enter Tryz.func149,Tryz.ntmps149
    go_wp2_with(first | (go_at_call 201;refine(CT.out).mono ?_;rintro e w' ⟨rfl,rfl⟩))
    go_loop [3,17] (fun v iv=>∃ k:Nat,k≤t.size∧iv=.int .i64 k∧Hid ((t.data.toList.take k).all dig=true)) (fun _ iv=>t.size-(intOf iv).toNat)
    case atStart=>exact⟨0,Nat.zero_le _,rfl,hQ9 rfl⟩
    case round =>
     obtain⟨k,hk,rfl,HA⟩:=hrel
     by_cases hlt:k<t.size
     ·have hk0:(0:Int)≤(k:Int):=by omega
      have hk1:(k:Int)<(t.size:Int):=by omega
      have e1:IntKind.i64.wrap ((k:Int)+1)=((k+1:Nat):Int):=by rw [IntWalk.i64_in _ (by omega)];omega
      have HK:=hQ9 hlt
      by_cases hd:dig (t[k]'hlt)=true
      ·obtain⟨hd1,hd2⟩:=dig_int.1 hd
       have HN:=hQ9 (zmx t k hlt HA.out hd)
       clear hd
       go_wp2_with fail
       go_round
       case rel=>exact⟨k+1,by have:=HK.out;omega,by go_num,HN⟩
       case measure=>have h9:=HK.out;simp [intOf];omega
      ·have hdf:dig (t[k]'hlt)=false:=by simpa using hd
       have HN:=hQ9 (zor t k hlt hdf)
       by_cases hd1:((t[k]'hlt).toNat:Int)<48
       ·clear hd hdf
        go_wp2_with fail
        go_ret
        exact⟨xJ (HN.out.symm.trans HR.out),rfl⟩
       ·have hd2:(57:Int)<((t[k]'hlt).toNat:Int):=by
         rcases Int.lt_or_le 57 ((t[k]'hlt).toNat:Int)with h | h
         ·exact h
         ·exact absurd (dig_int.2 ⟨by omega,h⟩) hd
        clear hd hdf
        go_wp2_with fail
        go_ret
        exact⟨xJ (HN.out.symm.trans HR.out),rfl⟩
     ·obtain rfl:k=t.size:=by omega
      go_wp2_with fail
      go_ret
      refine⟨xJ ?_,rfl⟩
      have:=HA.out
      rw [List.take_of_length_le (by rw [xY];exact zN9 _)]at this
      exact this.symm.trans HR.out
end Go.Proofs.YtkpnheenacchhaaGreatDoor
