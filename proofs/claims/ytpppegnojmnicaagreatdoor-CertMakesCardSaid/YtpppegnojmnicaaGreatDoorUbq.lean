/- folkmootlaw12.Of: a certificate for the reference. -/
import Derived.Test.YtpppegnojmnicaaGreatDoorUbp
import Derived.Test.YtpppegnojmnicaaGreatDoorUbn
set_option linter.unusedSimpArgs false
set_option linter.unusedVariables false
namespace Go.Proofs.YtpppegnojmnicaaGreatDoor
open Go.RowKit
structure OfV (L : List SP) (b : Nat) (z : World) (v : Value) (f : Option Addr → Nat → Value) : Prop where
 out : ∃ B k M, v = f B k ∧ MvL L M ∧ Sps z B M ∧ (∀ ad, B = some ad → b ≤ ad.block) ∧ (∀ S ∈ M, ∀ ad, S.A = some ad → S.l = [] ∨ b ≤ ad.block)
theorem OfV.gr {L : List SP} {b : Nat} {z z' : World} {v : Value} {f : Option Addr → Nat → Value} (h : OfV L b z v f) (g : Grew z z') : OfV L b z' v f := by
 obtain ⟨B, k, M, h1, h2, h3, h4, h5⟩ := h.out
 exact ⟨B, k, M, h1, h2, h3.gr g, h4, h5⟩
set_option maxRecDepth 100000 in
set_option maxHeartbeats 2000000 in
theorem zkm (c : Cm) (A : Option Addr) (k : Nat) (L : List SP) (hl : L.length ≤ 100000) (w : World) (hL : Sps w A L) :
 Calls Tryz.prog 31 #[.agg (ctC c A L.length k)] w fun e w' => (∃ B k' M, e = .returned (.agg (ctC c B L.length k')) ∧ MvL L M ∧ Sps w' B M) ∧ Grew w w' := by
 have huc := Tryz.underlying33
 have hur := Tryz.underlying29
 have SIC : Hid ((Tryz.prog.info? 33).map (·.size) = some c.cells.toList.length) := Lib.hid (show _ = some 5 by kernel_rfl)
 have z1 := (Ag.new w 36 (ctC c A L.length k)).grew (zc (za _) (.cells (#[.int .i64 0, .int .i64 0, .int .i64 0, .int .i64 0, .int .i64 0, .slice none 0 0] : Array Value) 29))
 have y1 := Ag.new (w.alloc (.cells (ctC c A L.length k) 36)) 29 (#[.int .i64 0, .int .i64 0, .int .i64 0, .int .i64 0, .int .i64 0, .slice none 0 0] : Array Value)
 rw [zo] at y1
 have G1 := zc (zc (za w) (.cells (ctC c A L.length k) 36)) (.cells (#[.int .i64 0, .int .i64 0, .int .i64 0, .int .i64 0, .int .i64 0, .slice none 0 0] : Array Value) 29)
 have CO := Lib.hid (fun W => cof_ok c W)
 rw [show c.v = .agg c.cells from rfl] at CO
 have HLS := Lib.hid (hL.gr G1)
 have CA := Lib.hid (fun W (h : Sps W A L) => znp A k L hl W h)
 have HBU : ∀ (B : Option Addr) (n : Nat), Hid (Tryz.prog.built 29 [(0, .agg c.cells), (1, .slice B L.length n)] = some (ctC c B L.length n)) := fun B n => Lib.hid (by kernel_rfl)
 have HSZ : Hid (((w.alloc (.cells (ctC c A L.length k) 36)).alloc (.cells (#[.int .i64 0, .int .i64 0, .int .i64 0, .int .i64 0, .int .i64 0, .slice none 0 0] : Array Value) 29)).heap.size = w.heap.size + 2) := Lib.hid (by simp)
 clear hL
 go_enter Tryz.func31, Tryz.ntmps31
 go_upto_region 1 with fail
 generalize (w.alloc (.cells (ctC c A L.length k) 36)).alloc (.cells (#[.int .i64 0, .int .i64 0, .int .i64 0, .int .i64 0, .int .i64 0, .slice none 0 0] : Array Value) 29) = w1 at *
 have HMC := Lib.hid (fun y (g : Grew w1 y) => y8 (z1.grew g))
 have HC5 : Hid (∀ y, Grew w1 y → y.cell? ⟨w.heap.size, 5, none⟩ = some (.slice A L.length k)) := Lib.hid (fun y g => by simpa using (z1.grew g).cell 5 _ rfl)
 clear z1
 refine zy 7 (fun ix9 => match ix9 with
  | 0 => fun v _ => v = .pointer (some ⟨w.heap.size, 0, none⟩)
  | 1 => fun v _ => v = .agg c.cells
  | 2 => fun v _ => v = .agg c.cells
  | 3 => fun v _ => v = .pointer (some ⟨w.heap.size, 5, none⟩)
  | 4 => fun v _ => v = .slice A L.length k
  | 5 => fun v z => OfV L w1.heap.size z v (fun B n => .slice B L.length n)
  | 6 => fun v z => OfV L w1.heap.size z v (fun B n => .agg (ctC c B L.length n))
  | _ => fun _ _ => True) (by kernel_rfl) (by kernel_rfl) ?_ ?_ ?_
 ·intro i v x y h hg
  match i, h with
  | 0, h | 1, h | 2, h | 3, h | 4, h => exact h
  | 5, h => exact OfV.gr h hg
  | 6, h => exact OfV.gr h hg
  | m + 7, _ => trivial
 ·refine ⟨?_, ?_, ?_, ?_, ?_, ?_, ?_, trivial⟩
  ·intro vs y hg hd
   simp only [actOf, tk1, tk0, dr1, dr0, Act.put, si1, st1, st0, Nat.reduceAdd]
   go_wp2_with fail
   exact ⟨rfl, _, rfl, za _, rfl⟩
  ·intro vs y hg hd
   obtain ⟨h0, _⟩ := hd
   replace h0 := h0 rfl
   simp only [actOf, tk1, tk0, dr1, dr0, Act.put, si1, st1, st0, Nat.reduceAdd]
   rw [show vs 0 = _ from h0]
   have hm := HMC.out y hg
   go_wp2_with (with_reducible refine wpList_load_mid rfl 33 (.tmp 3) rfl w.heap.size 0 rfl c.cells.toList _ hm huc rfl SIC.out ?_; simp only [Array.toArray_toList])
   exact ⟨rfl, _, rfl, za _, rfl⟩
  ·intro vs y hg hd
   obtain ⟨h1, _⟩ := hd
   replace h1 := h1 rfl
   simp only [actOf, tk1, tk0, dr1, dr0, Act.put, si1, st1, st0, Nat.reduceAdd]
   rw [show vs 1 = _ from h1]
   go_wp2_with (go_at_call 108; refine (CO.out y).mono ?_; rintro e z ⟨rfl, gz⟩)
   exact ⟨rfl, _, rfl, gz, rfl⟩
  ·intro vs y hg hd
   simp only [actOf, tk1, tk0, dr1, dr0, Act.put, si1, st1, st0, Nat.reduceAdd]
   go_wp2_with fail
   exact ⟨rfl, _, rfl, za _, rfl⟩
  ·intro vs y hg hd
   obtain ⟨h4, _⟩ := hd
   replace h4 := h4 rfl
   simp only [actOf, tk1, tk0, dr1, dr0, Act.put, si1, st1, st0, Nat.reduceAdd]
   rw [show vs 3 = _ from h4]
   have hc := HC5.out y hg
   go_wp2_with fail
   exact ⟨rfl, _, rfl, za _, rfl⟩
  ·intro vs y hg hd
   obtain ⟨h5, _⟩ := hd
   replace h5 := h5 rfl
   simp only [actOf, tk1, tk0, dr1, dr0, Act.put, si1, st1, st0, Nat.reduceAdd]
   rw [show vs 4 = _ from h5]
   go_wp2_with (go_at_call 109; refine (CA.out y (HLS.out.gr hg)).mono ?_; rintro e z ⟨B9, k9, M9, rfl, hmv9, hsp9, hcc1, hcc2, hbB9, hlw9, gz⟩)
   exact ⟨rfl, _, rfl, gz, ⟨B9, k9, M9, rfl, hmv9, hsp9, fun ad h => Nat.le_trans hg.size (hbB9 ad h), fun S hS ad h => (hlw9 S hS ad h).imp id (Nat.le_trans hg.size)⟩⟩
  ·intro vs y hg hd
   obtain ⟨h2, h5, _⟩ := hd
   replace h2 := h2 rfl
   obtain ⟨B9, k9, M9, e9, hr9⟩ := (h5 rfl).out
   simp only [actOf, tk1, tk0, dr1, dr0, Act.put, si1, st1, st0, Nat.reduceAdd]
   rw [show vs 2 = _ from h2, show vs 5 = _ from e9]
   have HB9 := HBU B9 k9
   go_wp2_with (with_reducible refine zE rfl 29 #[(0, .tmp 5), (1, .tmp 8)] rfl (ctC c B9 L.length k9) ?_ ?_; · simpa [Act.eval, Act.put] using HB9.out)
   exact ⟨rfl, _, rfl, za _, ⟨B9, k9, M9, rfl, hr9⟩⟩
 ·intro vs w2 hg hJ
  obtain ⟨B9, k9, M9, e9, hmv9, hsp9, hbB9, hlw9⟩ := (show OfV L w1.heap.size w2 (vs 6) _ from hJ 6 (by decide)).out
  clear hJ
  simp only [actOf, tk1, tk0, dr1, dr0, Act.put, si1, st1, st0, Nat.reduceAdd]
  have y2 := y1.grew hg
  have G2 := zb G1 hg
  rw [e9]
  have HTH : Hid (w2.there (w.heap.size + 1) 0 (ctC c B9 L.length k9).size) := Lib.hid (y2.thereN 6 rfl)
  have HSI : Hid ((Tryz.prog.info? 29).map (·.size) = some (ctC c B9 L.length k9).size) := Lib.hid yb
  have HON := Lib.hid (yj c B9 L.length k9)
  have zf := Ag.set (vs := (ctC c B9 L.length k9).toList) y2 rfl
  have Gf := ze (o := 0) (b := w.heap.size + 1) (ctC c B9 L.length k9).toList G2 (Nat.le_succ _)
  have HSPS := Lib.hid (hsp9.kpx (zx (ctC c B9 L.length k9).toList (w.heap.size + 1) 0 w2) (fun ad2 h e => by have := hbB9 ad2 h; have := HSZ.out; omega) (fun T hT ad2 h => by rcases hlw9 T hT ad2 h with h1 | h1; exact .inl h1; exact .inr (fun e => by have := HSZ.out; omega)))
  go_wp2_with (with_reducible refine wpList_store_mid rfl 29 (.tmp 2) (.tmp 9) rfl (w.heap.size + 1) 0 (ctC c B9 L.length k9) rfl rfl HTH.out HSI.out HON.out ?_)
  exact bodyPost_ret (yl Tryz.results31 _ _ (w.heap.size + 1) _ _ rfl zf hur rfl yb) rfl ⟨⟨B9, ⟨k9, rfl⟩, M9, hmv9, HSPS.out⟩, Gf⟩
def cm12 (n : Int) : Cm := ⟨1, n, 2, 3, 4⟩
theorem ok12 (n : Int) (h : 0 ≤ n ∧ n ≤ 1048576) : okC (cm12 n) := by unfold okC cm12; simp only; omega
theorem jP : dgC (cm12 0) = 11072973056134508768 := by unfold dgC; rw [xl]; decide +kernel
theorem dg12_1 : dgC (cm12 1) = 2552101572347126849 := by unfold dgC; rw [xl]; decide +kernel
def at12 (i : Nat) : Int := 10 * (4 - (i : Int))
/-- the stamp of replica i -/
noncomputable def sp12 (i : Nat) (A : Option Addr) (c : Nat) : SP := ⟨11072973056134508768, i, at12 i, i, 0, signF (secN (sdI 3 i) 0) (stD 11072973056134508768 (i : Int) (at12 i)), A, c, pathN (ksL 3 2 i) 0⟩
theorem sd12 (i : Nat) (h : i < 4) : sdI 3 i = ((3 + i : Nat) : Int) := by unfold sdI; omega
def pub3C (sd i : Nat) : Nat := foldC (fun k => chainC (sumC tagOt []) (twoC tagSk sd (32 * i + k)) 15) 18
theorem sec3C (sd i k : Nat) (hi : i < 100) (h : k < 18) : secN (sd : Int) (i : Int) k = twoC tagSk sd (32 * i + k) := by
 unfold secN
 rw [jG, Int.toNat_natCast]
 congr 1
 omega
theorem xu (sd i : Nat) (hi : i < 100) : pubN (secN (sd : Int) (i : Int)) = pub3C sd i := by
 unfold pubN
 rw [zoo]
 refine ze3 _ _ _ fun k hk => ?_
 show chainI tagOt (secN (sd : Int) (i : Int) k) ((15 : Nat) : Int) = _
 rw [zdn _ _ _ (by omega), sec3C sd i k hi hk]
theorem zej (sd : Int) : pathN (pubsL sd 4) 0 = [pubN (secN sd (1 : Nat)), twoN tagMt (pubN (secN sd (2 : Nat))) (pubN (secN sd (3 : Nat)))] := by
 obtain ⟨_, h1, h2, h3⟩ := zjp 1 (by decide) (pubsL sd 4) (by rw [yI])
 have ed : (pubsL sd 4).drop (2 ^ 1) = [pubN (secN sd (2 : Nat)), pubN (secN sd (3 : Nat))] := by simp [pubsL, List.range_succ]
 have e1 : (pubsL sd 4).getD 1 0 = pubN (secN sd (1 : Nat)) := by simp [pubsL, List.range_succ]
 have er : rootN [pubN (secN sd (2 : Nat)), pubN (secN sd (3 : Nat))] = twoN tagMt (pubN (secN sd (2 : Nat))) (pubN (secN sd (3 : Nat))) := (zjp 0 (by decide) [pubN (secN sd (2 : Nat)), pubN (secN sd (3 : Nat))] rfl).1.trans (by simp [rootN, rootF])
 rw [ed, er] at h2
 rw [e1] at h3
 generalize pathN (pubsL sd 4) 0 = q at *
 match q, h1 with
 | [x, y], _ =>
  simp only [List.getD_cons_zero, List.getD_cons_succ] at h2 h3
  rw [h2, h3]
theorem one3C (sd d : Nat) : oneL (signF (secN (sd : Int) 0) d) = (List.range 18).map (fun k => chainC (sumC tagOt []) (twoC tagSk sd k) (digK d k)) := by
 unfold oneL
 refine List.map_congr_left fun k hk => ?_
 have hk := List.mem_range.1 hk
 show chainI tagOt (secN (sd : Int) 0 k) (digK d k : Nat) = _
 have h := kK d k
 rw [zdn _ _ _ (by omega)]
 have := sec3C sd 0 k (by omega) hk
 rw [show ((0 : Nat) : Int) = 0 from rfl] at this
 rw [this]
 simp
theorem zpu : stD 11072973056134508768 (0 : Nat) 40 = 15966621887227842923 := by unfold stD; rw [xl]; decide +kernel
set_option maxRecDepth 20000 in
theorem zpv : oneL (signF (secN (sdI 3 0) 0) (stD 11072973056134508768 (0 : Nat) (at12 0))) = [10164839410981344642, 18027604537860607343, 8478863248707526853, 16744804209310170342, 8814157964299338987, 546146407423097686, 7003691831920922978, 10750060559880112357, 8399057036288445816, 6136470048841033100, 1379996484370740556, 16679784669701375912, 8767933177087969519, 5780988666691838277, 8173614882595541081, 11208229297800286905, 3105118423646406668, 6068574429966205700] := by
 rw [sd12 0 (by decide), show at12 0 = 40 from by decide, zpu, one3C]
 decide +kernel
set_option maxRecDepth 20000 in
theorem zkn : pub3C 3 1 = 10838168572868916013 := by decide +kernel
set_option maxRecDepth 20000 in
theorem zko : pub3C 3 2 = 4016481466389781505 := by decide +kernel
set_option maxRecDepth 20000 in
theorem zkp : pub3C 3 3 = 15729641900515066672 := by decide +kernel
theorem zns : pathN (ksL 3 2 0) 0 = [10838168572868916013, 3520008264607841851] := by
 unfold ksL
 rw [sd12 0 (by decide), show (2 : Nat) ^ 2 = 4 from rfl, zej, show ((3 + 0 : Nat) : Int) = ((3 : Nat) : Int) from rfl, xu 3 1 (by decide), xu 3 2 (by decide), xu 3 3 (by decide), zkn, zko, zkp, jG]
 decide +kernel
def tx12_0 : List UInt8 := joinF [hexL 11072973056134508768, Lib.itoa 0, Lib.itoa 40, joinF [Lib.itoa 0, Lib.itoa 0, digs [10164839410981344642, 18027604537860607343, 8478863248707526853, 16744804209310170342, 8814157964299338987, 546146407423097686, 7003691831920922978, 10750060559880112357, 8399057036288445816, 6136470048841033100, 1379996484370740556, 16679784669701375912, 8767933177087969519, 5780988666691838277, 8173614882595541081, 11208229297800286905, 3105118423646406668, 6068574429966205700], digs [10838168572868916013, 3520008264607841851]]]
theorem zbo (A : Option Addr) (c : Nat) : (sp12 0 A c).tx = tx12_0 := by
 unfold SP.tx stT sgT
 have h1 := zpv
 have h2 := zns
 simp only [sp12]
 rw [h1, h2, show at12 0 = 40 from by decide]
 rfl
theorem zpw : stD 11072973056134508768 (1 : Nat) 30 = 1638133653024639930 := by unfold stD; rw [xl]; decide +kernel
set_option maxRecDepth 20000 in
theorem zpx : oneL (signF (secN (sdI 3 1) 0) (stD 11072973056134508768 (1 : Nat) (at12 1))) = [8823409642947144199, 10726231353690296254, 5308919216513504128, 7890064108720259084, 5796236875647544759, 3585312209228410274, 4779330838179531242, 15869258363420006580, 6225437809584029066, 536173375699785379, 7436645652985450857, 14311322390946840234, 5809670913101291951, 16244213456542064592, 641379409487724698, 15731445655921949264, 13959165149023755926, 2740980461045437638] := by
 rw [sd12 1 (by decide), show at12 1 = 30 from by decide, zpw, one3C]
 decide +kernel
set_option maxRecDepth 20000 in
theorem zkq : pub3C 4 1 = 6649314571574237929 := by decide +kernel
set_option maxRecDepth 20000 in
theorem zkr : pub3C 4 2 = 18192797344987365427 := by decide +kernel
set_option maxRecDepth 20000 in
theorem zks : pub3C 4 3 = 18037127278147134743 := by decide +kernel
theorem znt : pathN (ksL 3 2 1) 0 = [6649314571574237929, 6357026864268119474] := by
 unfold ksL
 rw [sd12 1 (by decide), show (2 : Nat) ^ 2 = 4 from rfl, zej, show ((3 + 1 : Nat) : Int) = ((4 : Nat) : Int) from rfl, xu 4 1 (by decide), xu 4 2 (by decide), xu 4 3 (by decide), zkq, zkr, zks, jG]
 decide +kernel
def tx12_1 : List UInt8 := joinF [hexL 11072973056134508768, Lib.itoa 1, Lib.itoa 30, joinF [Lib.itoa 1, Lib.itoa 0, digs [8823409642947144199, 10726231353690296254, 5308919216513504128, 7890064108720259084, 5796236875647544759, 3585312209228410274, 4779330838179531242, 15869258363420006580, 6225437809584029066, 536173375699785379, 7436645652985450857, 14311322390946840234, 5809670913101291951, 16244213456542064592, 641379409487724698, 15731445655921949264, 13959165149023755926, 2740980461045437638], digs [6649314571574237929, 6357026864268119474]]]
theorem zbp (A : Option Addr) (c : Nat) : (sp12 1 A c).tx = tx12_1 := by
 unfold SP.tx stT sgT
 have h1 := zpx
 have h2 := znt
 simp only [sp12]
 rw [h1, h2, show at12 1 = 30 from by decide]
 rfl
theorem zpy : stD 11072973056134508768 (2 : Nat) 20 = 1493983740783670662 := by unfold stD; rw [xl]; decide +kernel
set_option maxRecDepth 20000 in
theorem zpz : oneL (signF (secN (sdI 3 2) 0) (stD 11072973056134508768 (2 : Nat) (at12 2))) = [44330632093622936, 111613608495711016, 9715802212940863209, 16683418268780201974, 16729694224924817261, 2068012371469009618, 12625856476852044684, 15481458255126746410, 16754180944146849501, 1305139591516044412, 3392515149159059428, 6319750731398349896, 15114143218134344655, 13480120470573555273, 7256571735283944402, 16205960372130547571, 11152131732521797278, 3881808075244492058] := by
 rw [sd12 2 (by decide), show at12 2 = 20 from by decide, zpy, one3C]
 decide +kernel
set_option maxRecDepth 20000 in
theorem zkt : pub3C 5 1 = 1797428194185415636 := by decide +kernel
set_option maxRecDepth 20000 in
theorem zku : pub3C 5 2 = 4622135885507702946 := by decide +kernel
set_option maxRecDepth 20000 in
theorem zkv : pub3C 5 3 = 2475106352051428798 := by decide +kernel
theorem znu : pathN (ksL 3 2 2) 0 = [1797428194185415636, 9820152051246451109] := by
 unfold ksL
 rw [sd12 2 (by decide), show (2 : Nat) ^ 2 = 4 from rfl, zej, show ((3 + 2 : Nat) : Int) = ((5 : Nat) : Int) from rfl, xu 5 1 (by decide), xu 5 2 (by decide), xu 5 3 (by decide), zkt, zku, zkv, jG]
 decide +kernel
def tx12_2 : List UInt8 := joinF [hexL 11072973056134508768, Lib.itoa 2, Lib.itoa 20, joinF [Lib.itoa 2, Lib.itoa 0, digs [44330632093622936, 111613608495711016, 9715802212940863209, 16683418268780201974, 16729694224924817261, 2068012371469009618, 12625856476852044684, 15481458255126746410, 16754180944146849501, 1305139591516044412, 3392515149159059428, 6319750731398349896, 15114143218134344655, 13480120470573555273, 7256571735283944402, 16205960372130547571, 11152131732521797278, 3881808075244492058], digs [1797428194185415636, 9820152051246451109]]]
theorem zbq (A : Option Addr) (c : Nat) : (sp12 2 A c).tx = tx12_2 := by
 unfold SP.tx stT sgT
 have h1 := zpz
 have h2 := znu
 simp only [sp12]
 rw [h1, h2, show at12 2 = 20 from by decide]
 rfl
theorem zp0 (i k : Nat) : (signF (secN (sdI 3 i) 0) (stD 11072973056134508768 (i : Int) (at12 i))) k < 18446744073709551616 := zmc _ _ _ (za7 _ _ _)
theorem zek (i : Nat) : (pathN (ksL 3 2 i) 0).length = 2 := zd6 _ 2 (by omega) 0 (by decide)
theorem zgq (i : Nat) (hi : i < 4) (A : Option Addr) (c : Nat) : (sp12 i A c).ok :=
 ⟨by show 11072973056134508768 < _; decide, ⟨by show _ ≤ (i : Int); omega, by show (i : Int) ≤ _; omega⟩, ⟨by show _ ≤ at12 i; unfold at12; omega, by show at12 i ≤ _; unfold at12; omega⟩, ⟨by show _ ≤ (i : Int); omega, by show (i : Int) ≤ _; omega⟩, ⟨by show _ ≤ (0 : Int); decide, by show (0 : Int) ≤ _; decide⟩, fun k _ => zp0 i k, by show (pathN (ksL 3 2 i) 0).length ≤ 1000; rw [zek]; decide, (show ∀ x ∈ pathN (ksL 3 2 i) 0, x < 18446744073709551616 from zmx _ _ (je _ _))⟩
/-- the keys of seed 3 -/
noncomputable def kp12 (RA : Option Addr) (Rc : Nat) : KP := ⟨1, rtL 3 2 4, RA, Rc, 2⟩
theorem qh (RA : Option Addr) (Rc : Nat) : (kp12 RA Rc).ok := ⟨⟨by show (1 : Int) ≤ 1; omega, by show (1 : Int) ≤ 3; omega⟩, by show (rtL 3 2 4).length ≤ 1000; rw [zay]; omega, rt_lt _ _ _ (by omega)⟩
theorem va12 (RA : Option Addr) (Rc : Nat) (i : Nat) (hi : i < 4) (A : Option Addr) (c : Nat) : vaS (kp12 RA Rc) (sp12 i A c) = 0 :=
 va_yes 3 2 (by omega) i 0 hi (by decide) 11072973056134508768 (at12 i) (decide_eq_true (by unfold at12; omega))
theorem fit12 (RA : Option Addr) (Rc : Nat) (i : Nat) (hi : i < 4) (A : Option Addr) (c : Nat) : fitB (kp12 RA Rc) 11072973056134508768 (sp12 i A c) = true := by
 unfold fitB
 rw [va12 RA Rc i hi A c]
 simp [sp12]
theorem zp1 (RA : Option Addr) (Rc : Nat) (i : Nat) (A : Option Addr) (c : Nat) (d : Nat) (hd : d ≠ 11072973056134508768) : fitB (kp12 RA Rc) d (sp12 i A c) = false := by
 unfold fitB
 rw [show decide ((sp12 i A c).cm = d) = false from decide_eq_false (fun h => hd h.symm)]
 rfl
theorem zkw (A0 A1 A2 A3 : Option Addr) (c0 c1 c2 c3 : Nat) : eachL SP.who [sp12 3 A3 c3, sp12 2 A2 c2, sp12 1 A1 c1, sp12 0 A0 c0] = [sp12 0 A0 c0, sp12 1 A1 c1, sp12 2 A2 c2, sp12 3 A3 c3] := by
 rw [xG SP.who _ 4 (fun x hx => by
  simp only [List.mem_cons, List.not_mem_nil, or_false] at hx
  rcases hx with rfl | rfl | rfl | rfl <;> exact ⟨by show (0 : Int) ≤ ((_ : Nat) : Int); omega, by show ((_ : Nat) : Int) < 4; omega⟩)]
 simp [upTo, List.range_succ, sp12, List.find?]
theorem zp2 (A2 A3 : Option Addr) (c2 c3 : Nat) : eachL SP.who [sp12 3 A3 c3, sp12 2 A2 c2] = [sp12 2 A2 c2, sp12 3 A3 c3] := by
 rw [xG SP.who _ 4 (fun x hx => by
  simp only [List.mem_cons, List.not_mem_nil, or_false] at hx
  rcases hx with rfl | rfl <;> exact ⟨by show (0 : Int) ≤ ((_ : Nat) : Int); omega, by show ((_ : Nat) : Int) < 4; omega⟩)]
 simp [upTo, List.range_succ, sp12, List.find?]
section
variable (RA : Option Addr) (Rc : Nat) (A0 A1 A2 A3 : Option Addr) (c0 c1 c2 c3 : Nat)
theorem znv : chosen (kp12 RA Rc) (dgC (cm12 0)) [sp12 3 A3 c3, sp12 2 A2 c2, sp12 1 A1 c1, sp12 0 A0 c0] = [sp12 0 A0 c0, sp12 1 A1 c1, sp12 2 A2 c2] := by
 unfold chosen
 rw [jP, List.filter_eq_self.2 (fun x hx => by
  simp only [List.mem_cons, List.not_mem_nil, or_false] at hx
  rcases hx with rfl | rfl | rfl | rfl <;> exact fit12 _ _ _ (by omega) _ _), zkw]
 rfl
theorem znw : enoughB (kp12 RA Rc) (dgC (cm12 0)) [sp12 3 A3 c3, sp12 2 A2 c2, sp12 1 A1 c1, sp12 0 A0 c0] = true := by
 unfold enoughB
 rw [jP, List.filter_eq_self.2 (fun x hx => by
  simp only [List.mem_cons, List.not_mem_nil, or_false] at hx
  rcases hx with rfl | rfl | rfl | rfl <;> exact fit12 _ _ _ (by omega) _ _), zkw]
 rfl
theorem zkx : enoughB (kp12 RA Rc) (dgC (cm12 0)) [sp12 3 A3 c3, sp12 2 A2 c2] = false := by
 unfold enoughB
 rw [jP, List.filter_eq_self.2 (fun x hx => by
  simp only [List.mem_cons, List.not_mem_nil, or_false] at hx
  rcases hx with rfl | rfl <;> exact fit12 _ _ _ (by omega) _ _), zp2]
 rfl
theorem zky : enoughB (kp12 RA Rc) (dgC (cm12 1)) [sp12 3 A3 c3, sp12 2 A2 c2, sp12 1 A1 c1, sp12 0 A0 c0] = false := by
 unfold enoughB
 rw [dg12_1, List.filter_eq_nil_iff.2 (fun x hx => by
  simp only [List.mem_cons, List.not_mem_nil, or_false] at hx
  rcases hx with rfl | rfl | rfl | rfl <;> (rw [zp1 _ _ _ _ _ _ (by decide)]; decide))]
 have : eachL SP.who [] = ([] : List SP) := by
  have := x9 SP.who ([] : List SP)
  have h2 := yO SP.who ([] : List SP)
  exact List.eq_nil_of_length_eq_zero (by rw [h2]; simpa using this)
 rw [this]
 rfl
theorem at12_c : atV [sp12 0 A0 c0, sp12 1 A1 c1, sp12 2 A2 c2] = 30 := by
 unfold atV
 rw [if_neg (by simp)]
 have h : List.map SP.at_ [sp12 0 A0 c0, sp12 1 A1 c1, sp12 2 A2 c2] = [at12 0, at12 1, at12 2] := rfl
 rw [h, show [sp12 0 A0 c0, sp12 1 A1 c1, sp12 2 A2 c2].length / 2 = 1 from by simp]
 unfold midZ
 rw [← qG (m := [20, 30, 40]) (by decide) (by decide)]
 rfl
theorem at12_d : atV [sp12 1 A1 c1, sp12 0 A0 c0, sp12 2 A2 c2] = 30 := by
 unfold atV
 rw [if_neg (by simp)]
 have h : List.map SP.at_ [sp12 1 A1 c1, sp12 0 A0 c0, sp12 2 A2 c2] = [at12 1, at12 0, at12 2] := rfl
 rw [h, show [sp12 1 A1 c1, sp12 0 A0 c0, sp12 2 A2 c2].length / 2 = 1 from by simp]
 unfold midZ
 rw [← qG (m := [20, 30, 40]) (by decide) (by decide)]
 rfl
theorem vd12 (i : Nat) (hi : i < 4) (A : Option Addr) (c : Nat) : vdE (kp12 RA Rc) (dgC (cm12 0)) (sp12 i A c) = 0 := by
 unfold vdE
 rw [jP, va12 RA Rc i hi A c]
 simp [sp12]
theorem mv12_c : mvE (kp12 RA Rc) (cm12 0) [sp12 0 A0 c0, sp12 1 A1 c1, sp12 2 A2 c2] = 0 := by
 unfold mvE cqE
 rw [if_pos (ok12 0 (by omega))]
 refine (if_pos (by rfl)).trans ?_
 rw [xa (by rfl) (vd12 RA Rc 0 (by omega) A0 c0), xa (by show decide (((1 : Nat) : Int) ≤ ((0 : Nat) : Int)) = false; decide) (vd12 RA Rc 1 (by omega) A1 c1), xa (by show decide (((2 : Nat) : Int) ≤ ((1 : Nat) : Int)) = false; decide) (vd12 RA Rc 2 (by omega) A2 c2)]
 rfl
theorem mv12_d : mvE (kp12 RA Rc) (cm12 0) [sp12 1 A1 c1, sp12 0 A0 c0, sp12 2 A2 c2] = 10 := by
 unfold mvE cqE
 rw [if_pos (ok12 0 (by omega))]
 refine (if_pos (by rfl)).trans ?_
 rw [xa (by rfl) (vd12 RA Rc 1 (by omega) A1 c1), zgk (by show decide (((0 : Nat) : Int) ≤ ((1 : Nat) : Int)) = true; decide)]
set_option maxRecDepth 20000 in
theorem ctD12 : ctD (cm12 0) [sp12 0 A0 c0, sp12 1 A1 c1, sp12 2 A2 c2] = 9702888124108024343 := by
 unfold ctD ctTx
 simp only [List.map_cons, List.map_nil]
 rw [zbo, zbp, zbq, xl]
 decide +kernel
set_option maxRecDepth 20000 in
theorem ctD12d : ctD (cm12 0) [sp12 1 A1 c1, sp12 0 A0 c0, sp12 2 A2 c2] = 4472664578534680490 := by
 unfold ctD ctTx
 simp only [List.map_cons, List.map_nil]
 rw [zbo, zbp, zbq, xl]
 decide +kernel
set_option maxRecDepth 20000 in
theorem ctTx12 : (ctTx (cm12 0) [sp12 0 A0 c0, sp12 1 A1 c1, sp12 2 A2 c2]).length ≤ 1000000 := by
 unfold ctTx
 simp only [List.map_cons, List.map_nil]
 rw [zbo, zbp, zbq]
 decide +kernel
end
set_option maxRecDepth 100000 in
theorem zij (S T : SP) (hcm : S.cm = T.cm) (hne : S.who ≠ T.who) (w : World) :
 Calls Tryz.prog 111 #[.agg S.C, .agg T.C] w fun e w' => e = .returned (.bool false) ∧ Grew w w' := by
 have z1 := (Ag.new w 91 S.C).grew (zc (za _) (.cells T.C 91))
 have z2 := Ag.new (w.alloc (.cells S.C 91)) 91 T.C
 rw [zo] at z2
 have G0 := zc (zc (za w) (.cells S.C 91)) (.cells T.C 91)
 have x0 : ((w.alloc (.cells S.C 91)).alloc (.cells T.C 91)).cell? ⟨w.heap.size, 0, none⟩ = some (.int .u64 (S.cm : Nat)) := by simpa using z1.cell 0 _ rfl
 have x1 : ((w.alloc (.cells S.C 91)).alloc (.cells T.C 91)).cell? ⟨w.heap.size, 1, none⟩ = some (.int .i64 S.who) := by simpa using z1.cell 1 _ rfl
 have y0 : ((w.alloc (.cells S.C 91)).alloc (.cells T.C 91)).cell? ⟨w.heap.size + 1, 0, none⟩ = some (.int .u64 (T.cm : Nat)) := by simpa using z2.cell 0 _ rfl
 have y1 : ((w.alloc (.cells S.C 91)).alloc (.cells T.C 91)).cell? ⟨w.heap.size + 1, 1, none⟩ = some (.int .i64 T.who) := by simpa using z2.cell 1 _ rfl
 have e0 : ((S.cm : Int) == (T.cm : Int)) = true := by rw [hcm]; simp
 have e1 : (S.who == T.who) = false := by simpa using hne
 clear z1 z2 hcm hne
 generalize S.cm = a0 at *
 generalize T.cm = b0 at *
 generalize S.who = a1 at *
 generalize T.who = b1 at *
 generalize S.C = gs at *
 generalize T.C = gt at *
 go_enter Tryz.func111, Tryz.ntmps111
 go_wp2_with fail
 go_ret
 exact ⟨rfl, G0⟩
set_option maxRecDepth 100000 in
set_option maxHeartbeats 2000000 in
theorem zkz (A B : Option Addr) (c c' : Nat) (L M : List SP) (hl : L.length ≤ 100000) (hml : M.length = L.length) (S T : SP) (hs0 : L[0]? = some S) (ht0 : M[0]? = some T) (hcm : S.cm = T.cm) (hne : S.who ≠ T.who) (w : World) (hL : Sps w A L) (hM : Sps w B M) :
 Calls Tryz.prog 110 #[.slice A L.length c, .slice B L.length c', .func (.func 111) #[] #[]] w fun e w' => e = .returned (.bool false) ∧ Grew w w' := by
 have hut := Tryz.underlying91
 have hrL := hL.rd
 have hrM := hM.rd
 have HL := Lib.hid hL
 have HM := Lib.hid hM
 have HSS := Lib.hid (fun W => zij S T hcm hne W)
 have HSO : Hid (L[0]? = some S) := Lib.hid hs0
 have HTO : Hid (M[0]? = some T) := Lib.hid ht0
 have HML : Hid (M.length = L.length) := Lib.hid hml
 have e0 : ((L.length : Int) != (L.length : Int)) = false := by simp
 clear hL hM hml hs0 ht0 hcm hne
 go_enter Tryz.func110, Tryz.ntmps110
 go_wp2_with fail
 clear e0
 go_loopw [17] (fun iv wr => ∃ i : Nat, i = 0 ∧ iv = .int .i64 i ∧ Grew w wr) (fun iv _ => L.length - (Go.RowKit.intOf iv).toNat)
 case atStart => exact ⟨0, rfl, rfl, Below.refl _ _⟩
 case round =>
  obtain ⟨i, hil, rfl, hg⟩ := hrel
  have hS : L[i]? = some S := by rw [hil]; exact HSO.out
  have hT : M[i]? = some T := by rw [hil]; exact HTO.out
  clear hil
  by_cases hlt : i < L.length
  ·have hltM : i < M.length := by have := HML.out; omega
   obtain ⟨q, hA, hq, hm1⟩ := RdC.at24 hrL hg i hlt
   obtain ⟨r, hB, hr, hm2⟩ := RdC.at24 hrM hg i hltM
   subst hA
   subst hB
   rw [List.getElem?_eq_getElem hlt] at hS
   rw [List.getElem?_eq_getElem hltM] at hT
   injection hS with hS
   injection hT with hT
   rw [hS] at hm1
   rw [hT] at hm2
   clear hS hT
   have hi0 : (0 : Int) ≤ (i : Int) := by omega
   have hi1 : (i : Int) < (L.length : Int) := by omega
   have e4 : IntKind.i64.wrap ((i : Int) + 1) = (i : Int) + 1 := IntWalk.i64_in _ (by omega)
   obtain ⟨w2, hw2, ht2, g2, z2⟩ := yB wr S.C rfl
   obtain ⟨w3, hw3, ht3, g3, z3⟩ := yB w2 T.C rfl
   have HW2 := Lib.hid hw2
   have HT2 := Lib.hid ht2
   have HW3 := Lib.hid hw3
   have HT3 := Lib.hid ht3
   have CS := Lib.hid (HSS.out w3)
   have SIS : Hid ((Tryz.prog.info? 91).map (·.size) = some S.C.toList.length) := Lib.hid zv
   have SIZ : Hid ((Tryz.prog.info? 91).map (·.size) = some S.C.size) := Lib.hid zv
   have HON := Lib.hid S.one
   have SIT : Hid ((Tryz.prog.info? 91).map (·.size) = some T.C.toList.length) := Lib.hid zv
   have SIY : Hid ((Tryz.prog.info? 91).map (·.size) = some T.C.size) := Lib.hid zv
   have HOT := Lib.hid T.one
   have hk1 := (z2.grew g3).cell
   have hk2 := z3.cell
   have hm2' := kn hm2 hr g2
   have G3 := zb hg (zb g2 g3)
   clear hw2 ht2 hw3 ht3 z2 z3 hm2 g2 g3 hg
   go_wp2_with (first
    | (with_reducible refine wpList_load_mid rfl 91 (.tmp 20) rfl q (i * 24) rfl S.C.toList _ hm1 hut rfl SIS.out ?_; simp only [Array.toArray_toList])
    | (with_reducible refine wpList_store_mid rfl 91 (.tmp 8) (.tmp 21) rfl wr.heap.size 0 S.C rfl rfl HT2.out SIZ.out HON.out ?_; rw [HW2.out])
    | (with_reducible refine wpList_load_mid rfl 91 (.tmp 24) rfl r (i * 24) rfl T.C.toList _ hm2' hut rfl SIT.out ?_; simp only [Array.toArray_toList])
    | (with_reducible refine wpList_store_mid rfl 91 (.tmp 9) (.tmp 25) rfl w2.heap.size 0 T.C rfl rfl HT3.out SIY.out HOT.out ?_; rw [HW3.out])
    | (with_reducible refine wpList_load_mid rfl 91 (.tmp 8) rfl wr.heap.size 0 rfl S.C.toList _ hk1 hut rfl SIS.out ?_; simp only [Array.toArray_toList])
    | (with_reducible refine wpList_load_mid rfl 91 (.tmp 9) rfl w2.heap.size 0 rfl T.C.toList _ hk2 hut rfl SIT.out ?_; simp only [Array.toArray_toList]))
   refine (CS.out).mono ?_
   rintro e w4 ⟨rfl, gg⟩
   go_wp2_with fail
   go_ret
   exact ⟨rfl, zb G3 gg⟩
  ·rw [List.getElem?_eq_none (by omega)] at hS
   cases hS
set_option maxRecDepth 100000 in
set_option maxHeartbeats 1000000 in
theorem zk0 (c : Cm) (A B : Option Addr) (k k' : Nat) (L M : List SP) (hl : L.length ≤ 100000) (hml : M.length = L.length) (S T : SP) (hs0 : L[0]? = some S) (ht0 : M[0]? = some T) (hcm : S.cm = T.cm) (hne : S.who ≠ T.who) (w : World) (hL : Sps w A L) (hM : Sps w B M) :
 Calls Tryz.prog 32 #[.agg (ctC c A L.length k), .agg (ctC c B L.length k')] w fun e w' => e = .returned (.bool false) ∧ Grew w w' := by
 have huc := Tryz.underlying33
 have SIC : Hid ((Tryz.prog.info? 33).map (·.size) = some c.cells.toList.length) := Lib.hid (show _ = some 5 by kernel_rfl)
 have z0 := (Ag.new w 36 (ctC c A L.length k)).grew (zc (za _) (.cells (ctC c B L.length k') 36))
 have z1 := Ag.new (w.alloc (.cells (ctC c A L.length k) 36)) 36 (ctC c B L.length k')
 rw [zo] at z1
 have G0 := zc (zc (za w) (.cells (ctC c A L.length k) 36)) (.cells (ctC c B L.length k') 36)
 have CE := Lib.hid (zkz A B k k' L M hl hml S T hs0 ht0 hcm hne _ (hL.gr G0) (hM.gr G0))
 have hm1 := y8 z0
 have hm2 := y8 z1
 have hc1 : ((w.alloc (.cells (ctC c A L.length k) 36)).alloc (.cells (ctC c B L.length k') 36)).cell? ⟨w.heap.size, 5, none⟩ = some (.slice A L.length k) := by simpa using z0.cell 5 _ rfl
 have hc2 : ((w.alloc (.cells (ctC c A L.length k) 36)).alloc (.cells (ctC c B L.length k') 36)).cell? ⟨w.heap.size + 1, 5, none⟩ = some (.slice B L.length k') := by simpa using z1.cell 5 _ rfl
 have HEQ : ∀ W, (Op.equalIn 10000 33 (.agg c.cells) (.agg c.cells)).run Tryz.prog W = .ok true W := fun W => by
  have := cm_eq c c W
  rw [show c.v = .agg c.cells from rfl] at this
  simpa using this
 clear z0 z1 hL hM hml hs0 ht0 hcm hne
 generalize ctC c A L.length k = ga at *
 generalize ctC c B L.length k' = gb at *
 generalize c.cells = gc at *
 go_enter Tryz.func32, Tryz.ntmps32
 go_wp2_with (first
  | (with_reducible refine wpList_load_mid rfl 33 (.tmp 5) rfl w.heap.size 0 rfl gc.toList _ hm1 huc rfl SIC.out ?_; simp only [Array.toArray_toList])
  | (with_reducible refine wpList_load_mid rfl 33 (.tmp 7) rfl (w.heap.size + 1) 0 rfl gc.toList _ hm2 huc rfl SIC.out ?_; simp only [Array.toArray_toList]))
 refine (CE.out).mono ?_
 rintro e w1 ⟨rfl, gg⟩
 go_wp2_with fail
 go_ret
 exact ⟨rfl, zb G0 gg⟩
theorem zp3 : (Tryz.prog.info? 33).map (·.size) = some 5 := by kernel_rfl
set_option maxRecDepth 100000 in
theorem zel (n : Int) (w : World) : Calls Tryz.prog 44 #[.int .i64 n] w fun e w' => e = .returned (.agg (cm12 n).cells) ∧ Grew w w' := by
 show Calls _ _ _ _ fun e w' => e = .returned (.agg #[.int .i64 1, .int .i64 n, .int .i64 2, .int .i64 3, .int .i64 4]) ∧ Grew w w'
 have z0 := Ag.new w 33 #[.int .i64 0, .int .i64 0, .int .i64 0, .int .i64 0, .int .i64 0]
 have g0 := zc (za w) (.cells #[.int .i64 0, .int .i64 0, .int .i64 0, .int .i64 0, .int .i64 0] 33)
 have hut := Tryz.underlying33
 have hi5 := zp3
 have zf := Ag.set (vs := (#[.int .i64 1, .int .i64 n, .int .i64 2, .int .i64 3, .int .i64 4] : Array Value).toList) z0 rfl
 have Gf := ze (o := 0) (b := w.heap.size) (#[.int .i64 1, .int .i64 n, .int .i64 2, .int .i64 3, .int .i64 4] : Array Value).toList g0 (Nat.le_refl _)
 go_enter Tryz.func44, Tryz.ntmps44
 go_wp2_with (refine wpList_store_mid rfl 33 (.tmp 2) (.tmp 4) rfl w.heap.size 0 #[.int .i64 1, .int .i64 n, .int .i64 2, .int .i64 3, .int .i64 4] rfl rfl (z0.thereN 5 rfl) hi5 (by simp [Value.oneCell']) ?_)
 exact bodyPost_ret (yl Tryz.results44 _ _ w.heap.size _ _ rfl zf hut rfl hi5) rfl ⟨rfl, Gf⟩
end Go.Proofs.YtpppegnojmnicaaGreatDoor
