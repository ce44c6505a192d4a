/- The search for the shortest tour, by the program. -/
import Derived.Test.YtmemclcoegmjjaaRows
import Derived.Test.YtmemclcoegmjjaaSlc
import Derived.Test.YtmemclcoegmjjaaSmall
import Derived.Test.YtmemclcoegmjjaaOpens
import Derived.Test.YtmemclcoegmjjaaPlanNum
import Derived.Test.YtmemclcoegmjjaaSwT
import Derived.Test.YtmemclcoegmjjaaDirsOk
import Derived.Test.YtmemclcoegmjjaaOrdC
import Derived.Test.YtmemclcoegmjjaaTourC
import Derived.Test.YtmemclcoegmjjaaTourN
import Derived.Test.YtmemclcoegmjjaaTourM
import Derived.Test.YtmemclcoegmjjaaTourL
import Derived.Test.YtmemclcoegmjjaaTourMM
import Derived.Test.YtmemclcoegmjjaaFarF
import Derived.WalkKit
import Derived.ProofKit
import Derived.OpenShut
import Derived.ShutString
import Derived.ChangeOld
import Derived.Below
import Derived.Lib.Hide
import Derived.BigQuiet
import Derived.Deep.QuietTactic
import Derived.WalkLawsBesides
import Derived.Outline
import Derived.Deep.QuietTactic
import Derived.BigQuiet
import Derived.Deep.LoopGhost
import Derived.Deep.RegionHeld3
import Derived.Deep.RegionWith
import Derived.Laws.StructEq
import Derived.Maps.OwnOps
import Derived.Maps.OwnSet
import Derived.Maps.Views
import Derived.MapViews
import Derived.DeepKeys4
import Derived.StillTailTactics
namespace Go.Proofs.Ytmemclcoegmjjaa.tourR
open Go.ChangeShapes Go.WideShapes Go.ChangeAt Go.RowKit
open Go.ChangeMaps (open_string shut_string)
set_option linter.unusedVariables false
open Go Go.RowKit
open Go.Proofs.Ytmemclcoegmjjaa.slc Go.Proofs.Ytmemclcoegmjjaa.small Go.Proofs.Ytmemclcoegmjjaa.opens Go.Proofs.Ytmemclcoegmjjaa.planNum Go.Proofs.Ytmemclcoegmjjaa.swT Go.Proofs.Ytmemclcoegmjjaa.dirsOk Go.Proofs.Ytmemclcoegmjjaa.tourC Go.Proofs.Ytmemclcoegmjjaa.tourN Go.Proofs.Ytmemclcoegmjjaa.tourM Go.Proofs.Ytmemclcoegmjjaa.tourL Go.Proofs.Ytmemclcoegmjjaa.tourMM

/-- How many entries a search may lay. -/
def U : Nat → Nat
  | 0 => 0
  | r + 1 => 1 + 7 * U r
theorem U_le : ∀ r, r < 8 → U r ≤ 1000000 := by decide
/-- What lies there while a search goes on. -/
structure St (w : World) (A : Option Addr) (c B tb b n : Nat) (ds : List (Int × Int)) : Prop where
  dirs : Rd w B A (ds.length * 2) (pcell ds)
  Bb : B ≤ b
  t0 : w.cell? ⟨tb, 0, none⟩ = some (.slice A ds.length c)
  t1 : w.cell? ⟨tb, 1, none⟩ = some (.map (some b))
  tb : tb ≠ b
  bw : b < w.heap.size
  memo : Memo ds.length (tk ds) w b n
theorem St.kept0 {w w' : World} {A : Option Addr} {c B tb b n : Nat} {ds : List (Int × Int)} (h : St w A c B tb b n ds) (hg : w.grownBy w' none) : St w' A c B tb b n ds :=
  ⟨h.dirs.kept0 hg (Nat.le_trans h.Bb (Nat.le_of_lt h.bw)), h.Bb, hg.cell h.t0 (by simp), hg.cell h.t1 (by simp), h.tb, Nat.lt_of_lt_of_le h.bw hg.size, h.memo.kept hg⟩
theorem St.kept {w w' : World} {A : Option Addr} {c B tb b n n' : Nat} {ds : List (Int × Int)} (h : St w A c B tb b n ds) (hg : w.grownBy w' (some b)) (hm : Memo ds.length (tk ds) w' b n') : St w' A c B tb b n' ds :=
  ⟨h.dirs.kept hg (Nat.le_trans h.Bb (Nat.le_of_lt h.bw)) (fun x hx e => by intro e2; injection e2 with e2; have := h.Bb; omega), h.Bb, hg.cell h.t0 (by simp [h.tb]), hg.cell h.t1 (by simp [h.tb]), h.tb, Nat.lt_of_lt_of_le h.bw hg.size, hm⟩
/-- What a call of leastTicks does. -/
def LC (A : Option Addr) (c B tb b : Nat) (ds : List (Int × Int)) (r : Nat) : Prop :=
  ∀ (a m n : Nat) (w : World), pc m = r → a < ds.length → m < 2 ^ ds.length → St w A c B tb b n ds → n + U r < 100000000 →
    Calls Try.prog 102 #[.pointer (some ⟨tb, 0, none⟩), .agg #[.int .i64 a, .int .i64 m]] w fun e w' => e = .returned (.int .i64 (L ds.length (tk ds) a m)) ∧ ∃ n', n' ≤ n + U r ∧ St w' A c B tb b n' ds ∧ w.grownBy w' (some b)
set_option maxHeartbeats 1600000 in
set_option maxRecDepth 100000 in
theorem by_c (A : Option Addr) (c B tb b : Nat) (ds : List (Int × Int)) (hd : db ds = true) (r : Nat) (hL : LC A c B tb b ds r) (a m k n : Nat) (w : World) (hp : pc m = r + 1) (ha : a < ds.length) (hm : m < 2 ^ ds.length) (hk : k < ds.length) (hb : m.testBit k = true) (h : St w A c B tb b n ds) (hn : n + U r < 100000000) :
    Calls Try.prog 104 #[.pointer (some ⟨tb, 0, none⟩), .agg #[.int .i64 a, .int .i64 m], .int .i64 k] w fun e w' => e = .returned (.int .i64 (V ds.length (tk ds) a m k)) ∧ ∃ n', n' ≤ n + U r ∧ St w' A c B tb b n' ds ∧ w.grownBy w' (some b) := by
  have g0 := World.grownBy_alloc w (.cells #[.int .i64 a, .int .i64 m] 146) none
  have h0 := h.kept0 g0
  obtain ⟨p0, p1⟩ := boxed2 (World.grownBy.refl (w.alloc (.cells #[.int .i64 a, .int .i64 m] 146)) none)
  obtain ⟨ad, u, v, rfl, hadB, hx, f0, f1⟩ := Rd.dir h0.dirs ha
  obtain ⟨ad3, u', v', e3, _, hx', f2, f3⟩ := Rd.dir h0.dirs hk
  obtain rfl : ad = ad3 := by injection e3
  have hb1 := db_at hd ha
  have hb2 := db_at hd hk
  have ht : tk ds a k = sw u v u' v' := by unfold tk; rw [hx, hx']
  rw [hx] at hb1
  rw [hx'] at hb2
  have hV : V ds.length (tk ds) a m k = sw u v u' v' + L ds.length (tk ds) k (m - 2 ^ k) := by unfold V; rw [ht]
  obtain ⟨s0, s1⟩ := sw_bd hb1 hb2
  obtain ⟨l1, l7⟩ := db_len hd
  have h7 := two_le l7
  have hpk := (clr m (by omega) k (by omega) hb).1
  have hlt : m - 2 ^ k < 2 ^ ds.length := Nat.lt_of_le_of_lt (Nat.sub_le _ _) hm
  obtain ⟨v0, v1⟩ := L_bd l7 l1 (tk_bds hd) (m - 2 ^ k) k (m - 2 ^ k) (Nat.le_refl _) hk hlt
  have hp8 : pc m ≤ 7 := by
    unfold pc
    exact Nat.le_trans (List.length_filter_le _ _) (by simp)
  have HV := Lib.hid hV
  have VV := Lib.hid (show L ds.length (tk ds) k (m - 2 ^ k) ≤ 100 by omega)
  have HSW := Lib.hid (fun w => sw_impl u v u' v' w hb1 hb2)
  have HNX := Lib.hid (fun w => next_c a m k w (by omega) (by omega) hb)
  have HL := Lib.hid (fun (w : World) (h : St w (some ad) c B tb b n ds) => hL k (m - 2 ^ k) n w (by omega) hk hlt h hn)
  generalize sw u v u' v' = T at *
  generalize L ds.length (tk ds) k (m - 2 ^ k) = LL at *
  generalize m - 2 ^ k = m' at *
  have q5 : IntKind.i64.wrap (T + LL) = T + LL := by rw [IntKind.wrap_i64]; omega
  have i0 : (0 : Int) ≤ (a : Int) := by omega
  have i1 : (a : Int) < (ds.length : Int) := by omega
  have j0 : (0 : Int) ≤ (k : Int) := by omega
  have j1 : (k : Int) < (ds.length : Int) := by omega
  have t0 := h0.t0
  have HS0 := Lib.hid h0
  have n1 : some tb ≠ some b := by intro e; injection e with e; exact h0.tb e
  have n2 : some w.heap.size ≠ some b := by intro e; injection e with e; have := h.bw; omega
  have n3 : some ad.block ≠ some b := by intro e; injection e with e; have := h0.Bb; omega
  have n4 : ¬ (ad.add (a * 2)).block = b := by have := h0.Bb; rw [show ∀ i, (ad.add i).block = ad.block from fun i => by unfold Addr.add; split <;> rfl]; omega
  have n5 : ¬ (ad.add (k * 2)).block = b := by have := h0.Bb; rw [show ∀ i, (ad.add i).block = ad.block from fun i => by unfold Addr.add; split <;> rfl]; omega
  have HG0 := Lib.hid g0
  clear hL hx hx' hb1 hb2 ht hV e3 hpk h h0 hm h7 hlt hp8 v1 hn hp
  have v1 : LL ≤ 100 := VV.out
  go_enter Try.func104, Try.ntmps104
  go_wp2_with fail
  clear g0
  generalize (w.alloc (.cells #[.int .i64 a, .int .i64 m] 146)) = W1 at *
  have gdr : w.grownBy W1.drew none := HG0.out.trans (gb_drewN _ 1 none)
  have sdr : St W1.drew (some ad) c B tb b n ds := HS0.out.kept0 (gb_drewN _ 1 none)
  go_region_held3 (fun w' => w'.cell? ⟨tb, 0, none⟩ = some (.slice (some ad) ds.length c) ∧ w'.cell? ⟨w.heap.size, 0, none⟩ = some (.int .i64 a) ∧ w'.cell? ⟨w.heap.size, 1, none⟩ = some (.int .i64 m) ∧ w'.cell? (ad.add (a * 2)) = some (.int .i64 u) ∧ w'.cell? ⟨(ad.add (a * 2)).block, (ad.add (a * 2)).off + 1, none⟩ = some (.int .i64 v) ∧ w'.cell? (ad.add (k * 2)) = some (.int .i64 u') ∧ w'.cell? ⟨(ad.add (k * 2)).block, (ad.add (k * 2)).off + 1, none⟩ = some (.int .i64 v'))
    (first
      | (go_split_ands
         exact ⟨hg.cell (by assumption) (by first | exact n1 | simp), hg.cell (by assumption) (by first | exact n2 | simp), hg.cell (by assumption) (by first | exact n2 | simp), hg.cell (by assumption) (by first | (simp; done) | (simp; first | exact n4 | exact n5)), hg.cell (by assumption) (by first | (simp; done) | (simp; first | exact n4 | exact n5)), hg.cell (by assumption) (by first | (simp; done) | (simp; first | exact n4 | exact n5)), hg.cell (by assumption) (by first | (simp; done) | (simp; first | exact n4 | exact n5))⟩)
      | exact ⟨t0, p0, p1, f0, f1, f2, f3⟩)
    (first
      | (go_at_call 99; refine (HSW.out _).mono ?_; rintro e w3 ⟨rfl, hg⟩; have gd3 := gdr.trans hg; have sd3 := sdr.kept0 hg)
      | (go_at_call 101; refine (HNX.out _).mono ?_; rintro e w4 ⟨rfl, hg⟩; have gd4 := gd3.trans hg; have sd4 := sd3.kept0 hg)
      | (go_at_call 102; refine (HL.out _ sd4).mono ?_; rintro e w5 ⟨rfl, n', hn', sd5, hg⟩; have HF := Lib.hid (And.intro hn' (And.intro sd5 ((gb_any gd4 (some b)).trans hg)))))
  go_wp2_with fail
  go_ret
  exact ⟨ret_int HV.out.symm, _, HF.out⟩
set_option maxHeartbeats 1600000 in
set_option maxRecDepth 100000 in
theorem least_0 (A : Option Addr) (c B tb b : Nat) (ds : List (Int × Int)) (hd : db ds = true) : LC A c B tb b ds 0 := by
  intro a m n w hp ha hm h hn
  obtain ⟨l1, l7⟩ := db_len hd
  have h7 := two_le l7
  obtain rfl : m = 0 := (pc_zero m (by omega)).1 hp
  rw [L_zero]
  have g0 := World.grownBy_alloc w (.cells #[.int .i64 a, .int .i64 (0 : Nat)] 146) none
  have h0 := h.kept0 g0
  obtain ⟨p0, p1⟩ := boxed2 (World.grownBy.refl (w.alloc (.cells #[.int .i64 a, .int .i64 (0 : Nat)] 146)) none)
  obtain ⟨ad, u, v, rfl, hadB, hx, f0, f1⟩ := Rd.dir h0.dirs ha
  obtain ⟨ad3, u', v', e3, _, hx', f2, f3⟩ := Rd.dir h0.dirs (show 0 < ds.length by omega)
  obtain rfl : ad = ad3 := by injection e3
  have hb1 := db_at hd ha
  have hb2 := db_at hd (show 0 < ds.length by omega)
  have ht : tk ds a 0 = sw u v u' v' := by unfold tk; rw [hx, hx']
  rw [hx] at hb1
  rw [hx'] at hb2
  have HT := Lib.hid ht
  have HSW := Lib.hid (fun w => sw_impl u v u' v' w hb1 hb2)
  have i0 : (0 : Int) ≤ (a : Int) := by omega
  have i1 : (a : Int) < (ds.length : Int) := by omega
  have j2 : 0 < ds.length := by omega
  have j1 : (0 : Int) < (ds.length : Int) := by omega
  have t0 := h0.t0
  have HS0 := Lib.hid h0
  have HG0 := Lib.hid g0
  have hz : (((0 : Nat) : Int) == 0) = true := by decide
  clear hx hx' hb1 hb2 ht e3 h h0 hp hm h7 hn
  generalize sw u v u' v' = T at *
  go_enter Try.func102, Try.ntmps102
  go_wp2_with fail
  clear g0
  generalize (w.alloc (.cells #[.int .i64 a, .int .i64 (0 : Nat)] 146)) = W1 at *
  have f2' : W1.cell? ad = some (.int .i64 u') := f2
  have f3' : W1.cell? ⟨ad.block, ad.off + 1, none⟩ = some (.int .i64 v') := f3
  have gdr : w.grownBy W1.drew none := HG0.out.trans (gb_drewN _ 1 none)
  have sdr : St W1.drew (some ad) c B tb b n ds := HS0.out.kept0 (gb_drewN _ 1 none)
  go_region_held3 (fun w' => w'.cell? ⟨tb, 0, none⟩ = some (.slice (some ad) ds.length c) ∧ w'.cell? ⟨w.heap.size, 0, none⟩ = some (.int .i64 a) ∧ w'.cell? (ad.add (a * 2)) = some (.int .i64 u) ∧ w'.cell? ⟨(ad.add (a * 2)).block, (ad.add (a * 2)).off + 1, none⟩ = some (.int .i64 v) ∧ w'.cell? ad = some (.int .i64 u') ∧ w'.cell? ⟨ad.block, ad.off + 1, none⟩ = some (.int .i64 v'))
    (first
      | (go_split_ands
         exact ⟨hg.cell (by assumption) (by simp), hg.cell (by assumption) (by simp), hg.cell (by assumption) (by simp), hg.cell (by assumption) (by simp), hg.cell (by assumption) (by simp), hg.cell (by assumption) (by simp)⟩)
      | exact ⟨t0, p0, f0, f1, f2', f3'⟩)
    (first
      | (go_at_call 99; refine (HSW.out _).mono ?_; rintro e w3 ⟨rfl, hg⟩; have HF := Lib.hid (And.intro (sdr.kept0 hg) (gb_any (gdr.trans hg) (some b)))))
  go_wp2_with fail
  go_ret
  exact ⟨ret_int HT.out.symm, n, Nat.le_add_right _ _, HF.out⟩
/-- The least of the first k. -/
def lm (ds : List (Int × Int)) (a m k : Nat) : Int := match fm (V ds.length (tk ds) a m) m k with | none => 9223372036854775807 | some q => V ds.length (tk ds) a m q
theorem lm_skip (ds : List (Int × Int)) (a : Nat) {m k : Nat} (hb : m.testBit k = false) : lm ds a m (k + 1) = lm ds a m k := by
  unfold lm
  rw [show fm (V ds.length (tk ds) a m) m (k + 1) = fm (V ds.length (tk ds) a m) m k by rw [fm, if_neg (by simp [hb])]]
theorem lm_take (ds : List (Int × Int)) (a : Nat) {m k : Nat} (hb : m.testBit k = true) (hv : V ds.length (tk ds) a m k ≤ 9223372036854775807) : lm ds a m (k + 1) = min (lm ds a m k) (V ds.length (tk ds) a m k) := by
  unfold lm
  rw [fm, if_pos hb]
  cases fm (V ds.length (tk ds) a m) m k with
  | none => simp only []; omega
  | some q =>
    simp only []
    by_cases h : V ds.length (tk ds) a m k < V ds.length (tk ds) a m q
    · rw [if_pos h]; show V ds.length (tk ds) a m k = _; omega
    · rw [if_neg h]; show V ds.length (tk ds) a m q = _; omega
theorem lm_end (ds : List (Int × Int)) (a : Nat) {m : Nat} (hm0 : m ≠ 0) (hm : m < 2 ^ ds.length) : lm ds a m ds.length = L ds.length (tk ds) a m := by
  obtain ⟨q, hq⟩ := found (tk ds) a hm0 hm
  unfold lm
  rw [L_pos hm0 hq, hq]
theorem V_bd {ds : List (Int × Int)} (hd : db ds = true) (r a m k : Nat) (hp : pc m = r + 1) (ha : a < ds.length) (hm : m < 2 ^ ds.length) (hk : k < ds.length) (hb : m.testBit k = true) : 0 ≤ V ds.length (tk ds) a m k ∧ V ds.length (tk ds) a m k ≤ 100 := by
  obtain ⟨l1, l7⟩ := db_len hd
  have h7 := two_le l7
  have hlt : m - 2 ^ k < 2 ^ ds.length := Nat.lt_of_le_of_lt (Nat.sub_le _ _) hm
  obtain ⟨v0, v1⟩ := L_bd l7 l1 (tk_bds hd) (m - 2 ^ k) k (m - 2 ^ k) (Nat.le_refl _) hk hlt
  have hp8 : pc (m - 2 ^ k) ≤ 7 := by
    unfold pc
    exact Nat.le_trans (List.length_filter_le _ _) (by simp)
  have := tk_bds hd a k ha hk
  unfold V
  omega
theorem World.grownBy.refl' (w : World) (Z : Option Nat) : w.grownBy w Z := gb_any (World.grownBy.refl w none) Z
set_option maxHeartbeats 1600000 in
set_option maxRecDepth 100000 in
theorem least_s (A : Option Addr) (c B tb b : Nat) (ds : List (Int × Int)) (hd : db ds = true) (r : Nat) (hr : r < 7) (hL : LC A c B tb b ds r) : LC A c B tb b ds (r + 1) := by
  intro a m n w hp ha hm h hn
  obtain ⟨l1, l7⟩ := db_len hd
  have h7 := two_le l7
  have hm0 : m ≠ 0 := fun e => by rw [e, show pc 0 = 0 by decide +kernel] at hp; omega
  have g0 := World.grownBy_alloc w (.cells #[.int .i64 a, .int .i64 m] 146) none
  have h0 := h.kept0 g0
  obtain ⟨p0, p1⟩ := boxed2 (World.grownBy.refl (w.alloc (.cells #[.int .i64 a, .int .i64 m] 146)) none)
  obtain ⟨x, ok, hrun, hx⟩ := (h0.memo.kept (gb_drewN _ 1 none)).look l7 a m ha hm
  have hz : ((m : Int) == 0) = false := by simp; omega
  have t0 := h0.t0
  have t1 := h0.t1
  go_enter Try.func102, Try.ntmps102
  go_wp2_with fail
  have HNE := Lib.hid (show some w.heap.size ≠ some b by intro e; injection e with e; have := h.bw; omega)
  have HM := Lib.hid hm
  have HM2 := Lib.hid (show m < 128 by omega)
  have HM0 := Lib.hid hm0
  have HP := Lib.hid hp
  have HLL := Lib.hid hL
  have HG0 := Lib.hid g0
  have HS0 := Lib.hid h0
  have HX := Lib.hid hx
  have HRR := Lib.hid hrun
  clear g0 h0 hx h hz h7 hm hm0 hp hL
  generalize (w.alloc (.cells #[.int .i64 a, .int .i64 m] 146)) = W1 at *
  have hrun' : (Instr.lookup 142 (.map (some b)) (.agg #[.int .i64 a, .int .i64 m]) true).run Try.prog W1.drew = .ok (.tuple #[.int .i64 x, .bool ok]) W1.drew := HRR.out
  clear hrun
  go_region_held3 (fun w' => w'.cell? ⟨tb, 1, none⟩ = some (.map (some b)) ∧ w'.cell? ⟨w.heap.size, 0, none⟩ = some (.int .i64 a) ∧ w'.cell? ⟨w.heap.size, 1, none⟩ = some (.int .i64 m))
    (first
      | (go_split_ands
         exact ⟨hg.cell (by assumption) (by simp), hg.cell (by assumption) (by simp), hg.cell (by assumption) (by simp)⟩)
      | exact ⟨t1, p0, p1⟩)
    (fail)
  have gdr : w.grownBy W1.drew none := HG0.out.trans (gb_drewN _ 1 none)
  have sdr : St W1.drew A c B tb b n ds := HS0.out.kept0 (gb_drewN _ 1 none)
  have c0 : W1.drew.cell? ⟨w.heap.size, 0, none⟩ = some (.int .i64 a) := p0
  have c1 : W1.drew.cell? ⟨w.heap.size, 1, none⟩ = some (.int .i64 m) := p1
  change Exit.then _ _ _ _ W1.drew
  clear hrun' t0 t1 p0 p1 HG0 HS0 HRR
  generalize W1.drew = W2 at *
  have GD := Lib.hid gdr
  have SD := Lib.hid sdr
  cases ok
  · have s0 := sdr.t0
    have hne : some w.heap.size ≠ some b := HNE.out
    clear gdr sdr HX
    go_wp2_with fail
    go_loopw [7, 43] (fun q i wr => ∃ k : Nat, k ≤ ds.length ∧ i = .int .i64 k ∧ q = .int .i64 (lm ds a m k) ∧ (∃ n', n' ≤ n + k * U r ∧ St wr A c B tb b n' ds) ∧ W2.grownBy wr (some b)) (fun _ i _ => ds.length - (intOf i).toNat)
    case atStart => exact ⟨0, Nat.zero_le _, rfl, rfl, ⟨n, by omega, SD.out⟩, World.grownBy.refl' _ _⟩
    case round =>
      obtain ⟨k, hkn, rfl, rfl, ⟨n', hn', hst⟩, hg⟩ := hrel
      have d0 := hg.cell c0 hne
      have d1 := hg.cell c1 hne
      by_cases hlt : k < ds.length
      · have k0 : (0 : Int) ≤ (k : Int) := by omega
        have k1 : (k : Int) < (ds.length : Int) := by omega
        have HLV := Lib.hid (fun w => leaves_c a m k w (HM2.out) (by omega))
        have HST := Lib.hid hst
        have HG := Lib.hid hg
        have HN' := Lib.hid hn'
        cases hb : m.testBit k
        · rw [hb] at HLV
          have HLM := Lib.hid (lm_skip ds a hb)
          clear hst hg hn' hb
          generalize lm ds a m k = LM at *
          go_wp2_with fail
          refine (HLV.out _).mono ?_
          rintro e w3 ⟨rfl, g3⟩
          have HS3 := Lib.hid (HST.out.kept0 g3)
          have HG3 := Lib.hid (HG.out.trans (gb_any g3 _))
          clear g3
          go_wp2_with fail
          go_roundw
          case rel => exact ⟨k + 1, by omega, by go_num, by rw [HLM.out], ⟨n', by have := HN'.out; rw [Nat.succ_mul]; omega, HS3.out⟩, HG3.out⟩
          case measure => simp [intOf]; omega
        · rw [hb] at HLV
          have HLM := Lib.hid (lm_take ds a hb (by have := V_bd hd r a m k HP.out ha HM.out hlt hb; omega))
          have hkU : n' + U r < 100000000 := by
            have h1 := hn
            have h2 : k * U r ≤ 6 * U r := Nat.mul_le_mul_right _ (by omega)
            have h3 : U (r + 1) = 1 + 7 * U r := rfl
            omega
          have HBY := Lib.hid (fun (w : World) (h : St w A c B tb b n' ds) => by_c A c B tb b ds hd r HLL.out a m k n' w HP.out ha HM.out hlt hb h hkU)
          clear hst hg hn' hb hkU
          generalize hLM : lm ds a m k = LM at *
          generalize hVV : V ds.length (tk ds) a m k = VV at *
          clear hLM hVV
          go_wp2_with fail
          refine (HLV.out _).mono ?_
          rintro e w3 ⟨rfl, g3⟩
          have HS3 := Lib.hid (HST.out.kept0 g3)
          have HG3 := Lib.hid (HG.out.trans (gb_any g3 _))
          have d03 := g3.cell d0 (by simp)
          have d13 := g3.cell d1 (by simp)
          clear g3
          go_wp2_with fail
          refine (HBY.out _ HS3.out).mono ?_
          rintro e w4 ⟨rfl, n4, hn4, st4, g4⟩
          have HS4 := Lib.hid st4
          have HN4 := Lib.hid hn4
          have HG4 := Lib.hid (HG3.out.trans g4)
          clear st4 hn4 g4
          go_wp2_with fail
          refine ⟨⟨k + 1, by omega, by go_num, ?_, ⟨n4, by have := HN4.out; have := HN'.out; rw [Nat.succ_mul]; omega, HS4.out⟩, HG4.out⟩, by simp [intOf]; omega⟩
          rw [HLM.out]
          exact congrArg _ (by split <;> omega)
      · obtain rfl : k = ds.length := by omega
        have HST := Lib.hid hst
        have HG := Lib.hid hg
        have HN' := Lib.hid hn'
        have hlm := lm_end ds a HM0.out HM.out
        rw [hlm]
        clear hst hg hn' hlm
        have SDR := Lib.hid (HST.out.kept0 (gb_drewN wr 1 none))
        have hn1 : n' < maxLen := by
          have h1 := HN'.out
          have h2 : ds.length * U r ≤ 7 * U r := Nat.mul_le_mul_right _ l7
          have h3 : U (r + 1) = 1 + 7 * U r := rfl
          unfold maxLen
          omega
        obtain ⟨v0, v1⟩ := L_bd l7 l1 (tk_bds hd) m a m (Nat.le_refl _) ha HM.out
        have hpc := HP.out
        obtain ⟨w5, hrun, hme, hg5⟩ := SDR.out.memo.put l7 hn1 a m ha HM.out (WalkArith.wf_i64 (by omega))
        have HRUN := Lib.hid hrun
        have HME := Lib.hid hme
        have HG5 := Lib.hid hg5
        have HNB := Lib.hid (show n' + 1 ≤ n + U (r + 1) by
          have h1 := HN'.out
          have h2 : ds.length * U r ≤ 7 * U r := Nat.mul_le_mul_right _ l7
          have h3 : U (r + 1) = 1 + 7 * U r := rfl
          omega)
        clear hrun hme hg5 hn1 v0 v1 hpc
        generalize hLV : L ds.length (tk ds) a m = LV at *
        have HLV := Lib.hid hLV
        clear hLV
        go_wp2_with fail
        have t1' : wr.drew.cell? ⟨tb, 1, none⟩ = some (.map (some b)) := SDR.out.t1
        have d0' : wr.drew.cell? ⟨w.heap.size, 0, none⟩ = some (.int .i64 a) := d0
        have d1' : wr.drew.cell? ⟨w.heap.size, 1, none⟩ = some (.int .i64 m) := d1
        go_still_tail 6, (by kernel_rfl)
        change wpList _ _ _ _ _ wr.drew
        have hrun' : (Instr.mapUpdate 142 (.map (some b)) (.agg #[.int .i64 a, .int .i64 m]) (.int .i64 LV)).run Try.prog wr.drew = .ok () w5 := HRUN.out
        have HWD := Lib.hid (show w.grownBy w5 (some b) from ((gb_any GD.out (some b)).trans HG.out).trans ((gb_any (gb_drewN wr 1 none) (some b)).trans HG5.out))
        have HSF := Lib.hid (SDR.out.kept HG5.out HME.out)
        clear t1' d0' d1' HST HG SDR HRUN HME HG5
        generalize wr.drew = W3 at *
        go_wp2_with fail
        go_ret
        exact ⟨ret_int HLV.out.symm, n' + 1, HNB.out, HSF.out, HWD.out⟩
  · have hxl := HX.out rfl
    clear HX gdr sdr
    go_wp2_with fail
    go_ret
    exact ⟨ret_int hxl, n, Nat.le_add_right _ _, SD.out, gb_any GD.out _⟩
theorem least_c (A : Option Addr) (c B tb b : Nat) (ds : List (Int × Int)) (hd : db ds = true) : ∀ r, r < 8 → LC A c B tb b ds r
  | 0, _ => least_0 A c B tb b ds hd
  | r + 1, h => least_s A c B tb b ds hd r (by omega) (least_c A c B tb b ds hd r (by omega))

end Go.Proofs.Ytmemclcoegmjjaa.tourR
