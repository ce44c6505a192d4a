/- The law on plans, walked. -/
import Derived.Test.YtbefoiikbbjjfaaRows
import Derived.Test.YtbefoiikbbjjfaaSlc
import Derived.Test.YtbefoiikbbjjfaaSmall
import Derived.Test.YtbefoiikbbjjfaaOpens
import Derived.Test.YtbefoiikbbjjfaaListI
import Derived.Test.YtbefoiikbbjjfaaPlaceAll
import Derived.Test.YtbefoiikbbjjfaaR8
import Derived.Test.YtbefoiikbbjjfaaSrc
import Derived.Test.YtbefoiikbbjjfaaDrawOk
import Derived.Test.YtbefoiikbbjjfaaBeams
import Derived.Test.YtbefoiikbbjjfaaPlanNum
import Derived.Test.YtbefoiikbbjjfaaDrawB
import Derived.Test.YtbefoiikbbjjfaaB10L
import Derived.Test.YtbefoiikbbjjfaaSwT
import Derived.Test.YtbefoiikbbjjfaaBeamsOk
import Derived.Test.YtbefoiikbbjjfaaListBeam
import Derived.Test.YtbefoiikbbjjfaaListSlot
import Derived.Test.YtbefoiikbbjjfaaPlanAll
import Derived.Test.YtbefoiikbbjjfaaLoadAll
import Derived.Test.YtbefoiikbbjjfaaLateC
import Derived.Test.YtbefoiikbbjjfaaBusyC
import Derived.Test.YtbefoiikbbjjfaaMissAll
import Derived.Test.YtbefoiikbbjjfaaHeapAll
import Derived.Test.YtbefoiikbbjjfaaPlanP
import Derived.Test.YtbefoiikbbjjfaaPlanQ
import Derived.Test.YtbefoiikbbjjfaaJobsQ
import Derived.Test.YtbefoiikbbjjfaaPlanI
import Derived.Test.YtbefoiikbbjjfaaFloatAll
import Derived.Test.YtbefoiikbbjjfaaFWalk
import Derived.Test.YtbefoiikbbjjfaaFinWalk
import Derived.Test.YtbefoiikbbjjfaaFlAll
import Derived.Test.YtbefoiikbbjjfaaPhasor
import Derived.Test.YtbefoiikbbjjfaaListC
import Derived.Test.YtbefoiikbbjjfaaSteerNum
import Derived.Test.YtbefoiikbbjjfaaSineIn
import Derived.Test.YtbefoiikbbjjfaaPolyAll
import Derived.Test.YtbefoiikbbjjfaaGAll
import Derived.Test.YtbefoiikbbjjfaaRoot
import Derived.Test.YtbefoiikbbjjfaaPowW
import Derived.Test.YtbefoiikbbjjfaaGap
import Derived.Test.YtbefoiikbbjjfaaPlanF
import Derived.Test.YtbefoiikbbjjfaaLoadF
import Derived.Test.YtbefoiikbbjjfaaGap10
import Derived.Test.YtbefoiikbbjjfaaSwC
import Derived.WalkKit
import Derived.ProofKit
import Derived.OpenShut
import Derived.ShutString
import Derived.ChangeOld
import Derived.Below
import Derived.Lib.Hide
import Derived.BigQuiet
import Derived.Deep.QuietTactic
import Derived.WalkLawsBesides
import Derived.Outline
import Derived.Deep.LoopGhost
import Derived.Deep.RegionHeld3
import Derived.Deep.RegionWith
namespace Go.Proofs.Ytbefoiikbbjjfaa.plansLaw
open Go.ChangeShapes Go.WideShapes Go.ChangeAt Go.RowKit
open Go.ChangeMaps (open_string shut_string)
set_option linter.unusedVariables false
open Go Ieee Go.RowKit
open Go.Proofs.Ytbefoiikbbjjfaa.planNum hiding Bd two
open Go.Proofs.Ytbefoiikbbjjfaa.values (FinW V)
open Go.Proofs.Ytbefoiikbbjjfaa.slc Go.Proofs.Ytbefoiikbbjjfaa.small Go.Proofs.Ytbefoiikbbjjfaa.opens Go.Proofs.Ytbefoiikbbjjfaa.listI Go.Proofs.Ytbefoiikbbjjfaa.r8 Go.Proofs.Ytbefoiikbbjjfaa.src Go.Proofs.Ytbefoiikbbjjfaa.beams Go.Proofs.Ytbefoiikbbjjfaa.drawB Go.Proofs.Ytbefoiikbbjjfaa.b10L Go.Proofs.Ytbefoiikbbjjfaa.listBeam Go.Proofs.Ytbefoiikbbjjfaa.beamsOk Go.Proofs.Ytbefoiikbbjjfaa.planDue Go.Proofs.Ytbefoiikbbjjfaa.planIs Go.Proofs.Ytbefoiikbbjjfaa.planTop Go.Proofs.Ytbefoiikbbjjfaa.loadNum Go.Proofs.Ytbefoiikbbjjfaa.loadC Go.Proofs.Ytbefoiikbbjjfaa.lateC Go.Proofs.Ytbefoiikbbjjfaa.busyC Go.Proofs.Ytbefoiikbbjjfaa.missC Go.Proofs.Ytbefoiikbbjjfaa.planP Go.Proofs.Ytbefoiikbbjjfaa.planI Go.Proofs.Ytbefoiikbbjjfaa.floats Go.Proofs.Ytbefoiikbbjjfaa.conv Go.Proofs.Ytbefoiikbbjjfaa.float2 Go.Proofs.Ytbefoiikbbjjfaa.float3 Go.Proofs.Ytbefoiikbbjjfaa.phase Go.Proofs.Ytbefoiikbbjjfaa.sine Go.Proofs.Ytbefoiikbbjjfaa.gNum Go.Proofs.Ytbefoiikbbjjfaa.rq Go.Proofs.Ytbefoiikbbjjfaa.powW Go.Proofs.Ytbefoiikbbjjfaa.planF Go.Proofs.Ytbefoiikbbjjfaa.loadF Go.Proofs.Ytbefoiikbbjjfaa.gap10 Go.Proofs.Ytbefoiikbbjjfaa.swC

theorem cv64 (w : World) (n : Int) : (convert 2 62 (.int .i64 n)).run Try.prog w = .ok (.float .f64 (floatOfInt .f64 n)) w :=
  run_convert_int_float w _ _ .i64 .f64 n (by rw [Try.underlying2]; rfl) Try.underlying62
attribute [local go_sem] cv64
def nxv (ss : List Sl) (k : Nat) (j : Nat) : Value := .int .i64 (cnt ss j k : Nat)
def dnv (bs : List Bm) (ss : List Sl) (u : Int) (k : Nat) (j : Nat) : Value := .int .i64 (missNum.don bs ss u j k : Nat)
theorem nx_zero (ss : List Sl) (n : Nat) : lst (fun _ => Value.int .i64 0) n = lst (nxv ss 0) n := lst_congr fun j _ => by unfold nxv cnt; simp
theorem dn_zero (bs : List Bm) (ss : List Sl) (u : Int) (n : Nat) : lst (fun _ => Value.int .i64 0) n = lst (dnv bs ss u 0) n := lst_congr fun j _ => by unfold dnv missNum.don; simp
theorem lst_set {f g : Nat → Value} {n j : Nat} {x : Value} (hn : j < n) (h1 : g j = x) (h2 : ∀ i, i < n → i ≠ j → f i = g i) : (lst f n).set j x = lst g n := by
  apply List.ext_getElem?
  intro i
  rw [List.getElem?_set]
  by_cases hi : j = i
  · subst hi
    rw [if_pos rfl, if_pos (by rw [lst_len]; exact hn), lst_get _ _ _ hn, h1]
  · rw [if_neg hi]
    by_cases h3 : i < n
    · rw [lst_get _ _ _ h3, lst_get _ _ _ h3, h2 i h3 (fun e => hi e.symm)]
    · rw [List.getElem?_eq_none (by rw [lst_len]; omega), List.getElem?_eq_none (by rw [lst_len]; omega)]
theorem nx_set {ss : List Sl} {k j n : Nat} (hj : (sg ss k).1 = (j : Int)) (hn : j < n) : (lst (nxv ss k) n).set j (.int .i64 ((cnt ss j k : Nat) + 1)) = lst (nxv ss (k + 1)) n :=
  lst_set hn (by unfold nxv; rw [show cnt ss j (k + 1) = cnt ss j k + 1 from by show cnt ss j k + _ = _; rw [if_pos hj]]; simp)
    fun i _ hi => by unfold nxv; rw [show cnt ss i (k + 1) = cnt ss i k from by show cnt ss i k + _ = _; rw [if_neg (by rw [hj]; omega)]; rfl]
theorem dn_set {bs : List Bm} {ss : List Sl} {u : Int} {k j n : Nat} (hj : (sg ss k).1 = (j : Int)) (hn : j < n) (h : missNum.fin bs ss k ≤ u) : (lst (dnv bs ss u k) n).set j (.int .i64 ((missNum.don bs ss u j k : Nat) + 1)) = lst (dnv bs ss u (k + 1)) n :=
  lst_set hn (by unfold dnv; rw [show missNum.don bs ss u j (k + 1) = missNum.don bs ss u j k + 1 from by show missNum.don bs ss u j k + _ = _; rw [if_pos ⟨hj, h⟩]]; simp)
    fun i _ hi => by unfold dnv; rw [show missNum.don bs ss u i (k + 1) = missNum.don bs ss u i k from by show missNum.don bs ss u i k + _ = _; rw [if_neg (fun x => by rw [hj] at x; omega)]; rfl]
theorem dn_pass {bs : List Bm} {ss : List Sl} {u : Int} {k n : Nat} (h : ¬ missNum.fin bs ss k ≤ u) : lst (dnv bs ss u k) n = lst (dnv bs ss u (k + 1)) n :=
  lst_congr fun i _ => by unfold dnv; rw [show missNum.don bs ss u i (k + 1) = missNum.don bs ss u i k from by show missNum.don bs ss u i k + _ = _; rw [if_neg (fun x => h x.2)]; rfl]
theorem max2c (t : TypeId) (w : World) (b m : Int) (hm : max 0 b = m) : (Builtin.max_ #[t, t] t #[.int .i64 0, .int .i64 b]).run Try.prog w = .ok (.int .i64 m) w := by
  subst hm
  have e : Builtin.max_ #[t, t] t #[.int .i64 0, .int .i64 b] = pure (.int .i64 (max 0 b)) := by
    simp only [Builtin.max_, List.foldlM, Builtin.max2, bind_pure, swT.gt_max]
  rw [e]
  rfl
theorem shb_of {bs : List Bm} (hsm : ∀ x ∈ bs, SmB x) {k : Nat} (hk : k < bs.length) : Shb bs k := by
  have h := hsm bs[k] (List.getElem_mem hk)
  rw [show bs[k] = bg bs k by simp [bg, List.getD, hk]] at h
  obtain ⟨_, _, h3, h4⟩ := h
  unfold Shb dn en dw ev
  omega
theorem slot_at {w : World} {B : Nat} {ad : Addr} {ss : List Sl} (h : Rd w B (some ad) (ss.length * 2) (pcell ss)) {k : Nat} (hk : k < ss.length) {x y : Int} (e : sg ss k = (x, y)) : w.cell? (ad.add (k * 2)) = some (.int .i64 x) ∧ w.cell? ⟨(ad.add (k * 2)).block, (ad.add (k * 2)).off + 1, none⟩ = some (.int .i64 y) := by
  obtain ⟨ad', x', y', e1, _, e2, c0, c1⟩ := Rd.slot h hk
  injection e1 with e1
  subst e1
  rw [e] at e2
  injection e2 with e2 e3
  subst e2 e3
  exact ⟨c0, c1⟩
theorem beam_at {w : World} {B n : Nat} {ad : Addr} {bs : List Bm} (h : Rd w B (some ad) (n * 4) (bcell bs)) {k : Nat} (hk : k < n) {u v d s : Int} (e : bg bs k = (u, v, d, s)) : w.cell? (ad.add (k * 4)) = some (.int .i64 u) ∧ w.cell? ⟨(ad.add (k * 4)).block, (ad.add (k * 4)).off + 1, none⟩ = some (.int .i64 v) ∧ w.cell? ⟨(ad.add (k * 4)).block, (ad.add (k * 4)).off + 2, none⟩ = some (.int .i64 d) ∧ w.cell? ⟨(ad.add (k * 4)).block, (ad.add (k * 4)).off + 3, none⟩ = some (.int .i64 s) := by
  obtain ⟨ad', u', v', d', s', e1, _, e2, c⟩ := Rd.four h hk
  injection e1 with e1
  subst e1
  rw [show bs.getD k (0, 0, 0, 0) = (u, v, d, s) from e] at e2
  injection e2 with e2 e3
  injection e3 with e3 e4
  injection e4 with e4 e5
  subst e2 e3 e4 e5
  exact c
theorem one_at {w : World} {B n : Nat} {ad : Addr} {f : Nat → Value} (h : Rd w B (some ad) n f) {k : Nat} (hk : k < n) : w.cell? (ad.add k) = some (f k) := by
  obtain ⟨ad', e1, _, c⟩ := h.at_ hk
  injection e1 with e1
  subst e1
  exact c
theorem some_of {w : World} {B n : Nat} {A : Option Addr} {f : Nat → Value} (h : Rd w B A n f) (hn : 0 < n) : ∃ ad, A = some ad := by
  obtain ⟨ad, e, _⟩ := h hn
  exact ⟨ad, e⟩
/-- A row of numbers. -/
def Rw (w : World) (g n : Nat) (f : Nat → Value) : Prop := w.ownsRow g 2 1 (.slice (some ⟨g, 0, none⟩) n n) n (lst f n)
theorem Rw.at_ {w : World} {g n : Nat} {f : Nat → Value} (h : Rw w g n f) {j : Nat} (hj : j < n) : w.cell? ⟨g, j, none⟩ = some (f j) := by
  have := World.ownsRow.cellAt h j (by omega)
  rwa [lst_get _ _ _ hj] at this
theorem Rw.ice {w : World} {g n : Nat} {f : Nat → Value} (h : Rw w g n f) (j : Nat) : w.frozen? ⟨g, j, none⟩ = false := World.ownsRow.frozenAt h j
theorem Rw.put {w : World} {g n : Nat} {f f' : Nat → Value} (h : Rw w g n f) (j : Nat) (x : Value) (e : (lst f n).set j x = lst f' n) : Rw (w.setCell ⟨g, j, none⟩ x) g n f' ∧ w.grownBy (w.setCell ⟨g, j, none⟩ x) (some g) := by
  have := World.ownsRow.stored h j x
  rw [e] at this
  exact this
theorem Rw.keep {w w' : World} {g n : Nat} {f : Nat → Value} {r : Option Nat} (h : Rw w g n f) (hg : w.grownBy w' r) (hr : r ≠ some g) : Rw w' g n f :=
  World.ownsRow.kept h hg (.inr (by rw [own_blk]; exact fun e => hr (by rw [← e]; rfl)))
theorem Rw.lt {w : World} {g n : Nat} {f : Nat → Value} (h : Rw w g n f) : g < w.heap.size := (own_base h g rfl).2
theorem c_micro : FinW double 4517329193108106637 ∧ (99999 : Rat) / 100000000000 ≤ r64 4517329193108106637 :=
  ⟨by unfold FinW; decide +kernel, loadF.r64_lo (a := 99999) (b := 100000000000) (by decide) (by decide +kernel)⟩
attribute [local go_sem] max2c
set_option maxHeartbeats 8000000 in
set_option maxRecDepth 100000 in
theorem law (A A' : Option Addr) (c d : Nat) (z y : List Int) (w : World) (hz : Byt z) (hzy : Byt y) (hm : z.length ≤ 9223372036854775807) (hy : y.length ≤ 9223372036854775807) (hr : Rd w w.heap.size A z.length (bt z)) (hry : Rd w w.heap.size A' y.length (bt y)) :
    Calls Try.prog 5 #[.slice A z.length c, .slice A' y.length d] w fun e w' => e = .returned (.bool true) ∧ Below w.heap.size w w' := by
  by_cases hl : z.length ≤ 1048576 ∧ y.length ≤ 1048576
  · have HUN := Lib.hid (fun (w2 : World) (g : w.grownBy w2 none) => b10_at A' d w2.heap.size y 0 100 w2 (by omega) hl.2 (by omega) (by omega) hzy ((hry.kept0 g (Nat.le_refl _)).mono g.size))
    have HPL := Lib.hid (beams_b10 A c z w hl.1 hz hr)
    obtain ⟨i0, hi0, hz0, hz1, hz2⟩ := info_parts planDue.info64
    clear hr hry
    go_enter Try.func5, Try.ntmps5
    go_wp2_with fail
    refine (long_no _ _ _ _ _ _ _ hl.1 hl.2).mono ?_
    rintro e w' ⟨rfl, rfl⟩
    go_wp2_with fail
    refine HPL.out.mono ?_
    rintro e w1 ⟨bs, A1, c1, hsm, h1, h4, rfl, ho1, g1⟩
    have hab := smb_ab hsm h1 h4
    have HLD := Lib.hid (load_ok hab h1 h4 (fun i hi => shb_of hsm hi))
    have HSB := Lib.hid (fun (i : Nat) (hi : i < bs.length) => quo_share (shb_of hsm hi))
    have HFS := Lib.hid (fun (k : Nat) (hk : k ≤ bs.length) => (fs_ok k (by omega) (fun i hi => shb_of hsm (by omega))).1)
    have RB := Lib.hid (show Rd w1 w1.heap.size A1 (bs.length * 4) (bcell bs) from Rd.of_lst ho1 rfl)
    have HAB := Lib.hid hab
    have HB4 := Lib.hid h4
    have HG1 := Lib.hid g1
    clear ho1 g1 HPL hsm hab
    go_wp2_with fail
    refine (HUN.out w1 HG1.out).mono ?_
    rintro e w' ⟨rfl, rfl⟩
    obtain ⟨u0, u1⟩ := b10_bd (z := y) 0 100 (by omega)
    generalize b10 y 0 100 = un at *
    obtain ⟨hpl, hgood⟩ := PB_good HAB.out (un := un) ⟨u0, by omega⟩
    have hpok := pok_yes HAB.out (un := un) ⟨u0, by omega⟩
    have HP0 := plan_impl A1 c1 w1.heap.size bs un w1 (by omega) RB.out (Nat.le_refl _)
    rw [hpok] at HP0
    have hslen := PB_len bs un
    have HP := Lib.hid HP0
    have HSS := Lib.hid hslen
    clear HP0 hpok
    go_wp2_with fail
    refine HP.out.mono ?_
    rintro e w2 ⟨O, d2, rfl, ho2, g2⟩
    clear HP
    generalize PB bs un = ss at *
    have RB2 := (RB.out.kept0 g2 (Nat.le_refl _)).mono g2.size
    have RS2 : Rd w2 w2.heap.size O (ss.length * 2) (pcell ss) := Rd.of_lst ho2 rfl
    have HRB := Lib.hid (fun (w' : World) (g : w2.grownBy w' none) => RB2.kept0 g (Nat.le_refl _))
    have HRS := Lib.hid (fun (w' : World) (g : w2.grownBy w' none) => RS2.kept0 g (Nat.le_refl _))
    have hLL : LL bs ss = lof (ltv bs ss) ss.length := by unfold LL; rw [if_pos hpl]
    have hML := mok_yes hpl (u := un) ⟨u0, by omega⟩
    have hBR : BR bs ss = (dws bs ss ss.length, tus bs ss ss.length, true) := by unfold BR; rw [if_pos hpl]
    have HLA0 := late_impl A1 c1 O d2 w2.heap.size bs ss w2 (by omega) (by omega) RB2 RS2 (Nat.le_refl _)
    rw [hLL, lof_len, ← lof_cls, hpl] at HLA0
    have HMI0 := fun (w' : World) (g : w2.grownBy w' none) => miss_impl A1 c1 O d2 w2.heap.size bs ss un w' (by omega) (by omega) (HRB.out w' g) (HRS.out w' g) g.size
    rw [hML.1, hML.2, lof_len, ← lof_cls] at HMI0
    have HBU0 := fun (w' : World) (g : w2.grownBy w' none) => busy_impl A1 c1 O d2 w2.heap.size bs ss w' (by omega) (by omega) (HRB.out w' g) (HRS.out w' g) g.size
    rw [hBR] at HBU0
    obtain ⟨T, D, R, hLR, t1, d1, hqr, bR, bF, hnr⟩ := HLD.out
    have HLO0 := fun (w' : World) (g : w2.grownBy w' none) => load_impl A1 c1 w2.heap.size bs w' (by omega) (HRB.out w' g) g.size
    rw [hLR] at HLO0
    have HAR0 := fun (w' : World) (g : w2.grownBy w' none) => are_impl A1 c1 w2.heap.size bs w' (by omega) (HRB.out w' g) g.size
    rw [HAB.out] at HAR0
    have HIS0 := fun (w' : World) (g : w2.grownBy w' none) => is_impl A1 c1 O d2 w2.heap.size bs ss w' (by omega) (by omega) (HRB.out w' g) (HRS.out w' g) g.size
    rw [hpl] at HIS0
    have hsp := (pl_and hpl).2
    have HLA := Lib.hid HLA0
    have HMI := Lib.hid HMI0
    have HBU := Lib.hid HBU0
    have HLO := Lib.hid HLO0
    have HAR := Lib.hid HAR0
    have HIS := Lib.hid HIS0
    have HSO := Lib.hid (fun k hk => slots_ok hsp k hk)
    have HSU := Lib.hid (fun k hk => sums_bd (BsOk.of HAB.out) hsp k hk)
    have HGD := Lib.hid hgood
    have HG2 := Lib.hid (HG1.out.trans g2)
    obtain ⟨gg1, gg2⟩ := gw_near bR bF (by omega) hnr
    have hgt := gt_r gg1 c_micro.1 (Rat.le_trans gg2 (Rat.le_trans (by decide +kernel) c_micro.2))
    have HGP := Lib.hid (fun w => gap10 bR bF (by omega) w)
    have hquo := fun w : World => run_ok (P := Try.prog) hqr rfl (w := w) (t := 62)
    have hT : ¬ (T : Int) < 1 := by omega
    have hD : ¬ (D : Int) < 1 := by omega
    have HQ := Lib.hid (And.intro hquo hgt)
    clear HLA0 HMI0 HBU0 HLO0 HAR0 HIS0 hLL hML hBR hpl hgood hsp RB2 RS2 hLR hqr bR bF hnr gg1 gg2 hgt hquo HLD ho2 RB
    go_wp2_with fail
    refine HLA.out.mono ?_
    rintro e w3 ⟨L3, c3, rfl, ho3, g3⟩
    have HO3 := Lib.hid (And.intro ho3 g3)
    clear ho3 g3 HLA
    go_wp2_with fail
    refine (HMI.out w3 HO3.out.2).mono ?_
    rintro e w4 ⟨M4, c4, rfl, ho4, g4⟩
    have HO4 := Lib.hid (And.intro (own_kept0 HO3.out.1 g4) (And.intro ho4 (HO3.out.2.trans g4)))
    clear ho4 g4 HMI HO3
    go_wp2_with fail
    refine (HBU.out w4 HO4.out.2.2).mono ?_
    rintro e w5 ⟨rfl, g5⟩
    have G5 := Lib.hid (And.intro g5 (HO4.out.2.2.trans g5))
    clear g5
    go_wp2_with fail
    refine (HLO.out w5 G5.out.2).mono ?_
    rintro e w6 ⟨rfl, g6⟩
    have G6 := Lib.hid (And.intro (G5.out.1.trans g6) (G5.out.2.trans g6))
    clear g6 G5
    go_wp2_with fail
    refine (HAR.out w6 G6.out.2).mono ?_
    rintro e w7 ⟨rfl, g7⟩
    have G7 := Lib.hid (And.intro (G6.out.1.trans g7) (G6.out.2.trans g7))
    clear g7 G6
    go_wp2_with fail
    refine (HIS.out w7 G7.out.2).mono ?_
    rintro e w8 ⟨rfl, g8⟩
    have G8 := Lib.hid (And.intro (G7.out.1.trans g8) (G7.out.2.trans g8))
    clear g8 G7
    have RL8 := Lib.hid (show Rd w8 w8.heap.size L3 ss.length (fun k => .int .i64 (ltv bs ss k)) from Rd.of_lst (own_kept0 HO4.out.1 G8.out.1) (Nat.mul_one _).symm)
    have RM8 := Lib.hid (show Rd w8 w8.heap.size M4 bs.length (fun k => .int .i64 (missNum.ms bs ss un k)) from Rd.of_lst (own_kept0 HO4.out.2.1 G8.out.1) (Nat.mul_one _).symm)
    have RB8 := Lib.hid ((HRB.out w8 G8.out.2).mono G8.out.2.size)
    have RS8 := Lib.hid ((HRS.out w8 G8.out.2).mono G8.out.2.size)
    have HG8 := Lib.hid (HG2.out.trans G8.out.2)
    clear HO4 G8 HRB HRS HG2 HG1 HBU HLO HAR HIS HUN
    go_wp2_with fail
    go_loopw [19, 123] (fun s i wr => ∃ k : Nat, k ≤ bs.length ∧ i = .int .i64 k ∧ s = .float .f64 (fs bs k) ∧ w8.grownBy wr none) (fun _ i _ => bs.length - (intOf i).toNat)
    case atStart => exact ⟨0, Nat.zero_le _, rfl, rfl, World.grownBy.refl _ _⟩
    case round =>
      obtain ⟨k, hk, rfl, rfl, hg⟩ := hrel
      by_cases hlt : k < bs.length
      · as_aux_lemma =>
          obtain ⟨ad, u, v, dd, es, rfl, _, hb, hc0, hc1, hc2, hc3⟩ := Rd.four (RB8.out.kept0 hg (Nat.le_refl _)) hlt
          obtain ⟨n1, n2, _⟩ := nums HAB.out hlt
          have e1 : dd = (loadNum.dn bs k : Int) := by rw [← n1]; unfold dw; rw [show bg bs k = _ from hb]
          have e2 : es = (en bs k : Int) := by rw [← n2]; unfold ev; rw [show bg bs k = _ from hb]
          subst e1 e2
          obtain ⟨q1, q2, _⟩ := HSB.out k hlt
          have hadd : floatBits .add .f64 (fs bs k) (bv .quo (floatOfInt .f64 (loadNum.dn bs k : Int)) (floatOfInt .f64 (en bs k : Int))) = some (fs bs (k + 1)) := (add64 (HFS.out k (by omega)) (q2.mono (by omega)) (by omega)).1
          have hq' := fun w : World => run_ok (P := Try.prog) q1 rfl (w := w) (t := 62)
          have ha' := fun w : World => run_ok (P := Try.prog) hadd rfl (w := w) (t := 62)
          have k0 : (0 : Int) ≤ (k : Int) := by omega
          have k1 : (k : Int) < (bs.length : Int) := by omega
          have HG := Lib.hid hg
          clear hb n1 n2 q1 q2 hadd hg hc0 hc1
          obtain ⟨F', hF'⟩ : ∃ F', fs bs (k + 1) = F' := ⟨_, rfl⟩
          rw [hF'] at ha'
          have HF' := Lib.hid hF'
          clear hF'
          generalize bv .quo (floatOfInt .f64 (loadNum.dn bs k : Int)) (floatOfInt .f64 (en bs k : Int)) = Q at *
          go_wp2_with fail
          go_quiet (fail)
          have hgd := HG.out.trans (gb_drewN wr nq none)
          generalize wr.drewN nq = wq at *
          go_wp2_with fail
          go_roundw
          case rel => exact ⟨k + 1, by omega, by go_num, by rw [HF'.out], hgd⟩
          case measure => simp [intOf]; omega
      · as_aux_lemma =>
          obtain rfl : k = bs.length := by omega
          have hquo := HQ.out.1
          have hgt := HQ.out.2
          have HG := Lib.hid hg
          clear hg
          go_wp2_with fail
          refine (HGP.out _).mono ?_
          rintro e w' ⟨rfl, rfl⟩
          go_wp2_with (first | (at_make; refine wpList_make_full _ rfl _ _ _ rfl wr.heap.size 2 i0 (.int .i64 0) 1 Try.underlying46 hi0 hz0 hz1 _ _ _ _ bs.length rfl rfl rfl rfl (by rw [hz2]; omega) (by unfold maxLen; omega) (Nat.le_refl _) ?_; intro wa hown3 hg3) | (at_make; refine wpList_make_full _ rfl _ _ _ rfl wa.heap.size 2 i0 (.int .i64 0) 1 Try.underlying46 hi0 hz0 hz1 _ _ _ _ bs.length rfl rfl rfl rfl (by rw [hz2]; omega) (by unfold maxLen; omega) (Nat.le_refl _) ?_; intro wb hown4 hg4))
          rw [Nat.mul_one] at hown3
          have N3 : Rw wa wr.heap.size bs.length (nxv ss 0) := by
            unfold Rw
            rw [← nx_zero, ← replicate_lst]
            exact (toList_madeCells_one (.int .i64 0) bs.length) ▸ hown3
          have HN3 := Lib.hid (And.intro N3 (HG.out.trans hg3))
          clear hown3 hg3 N3
          rw [Nat.mul_one] at hown4
          have D4 : Rw wb wa.heap.size bs.length (dnv bs ss un 0) := by
            unfold Rw
            rw [← dn_zero, ← replicate_lst]
            exact (toList_madeCells_one (.int .i64 0) bs.length) ▸ hown4
          have N4 := HN3.out.1.keep hg4 (by simp)
          have g12 := HN3.out.1.lt
          have g80 := HG.out.size
          have HX := Lib.hid (And.intro N4 (And.intro D4 (HN3.out.2.trans hg4)))
          clear hown4 hg4 N4 D4 HN3 HG
          generalize wr.heap.size = n1 at *
          generalize wa.heap.size = n2 at *
          have hn12 : n1 ≠ n2 := by omega
          go_wp2_with fail
          go_loopw [23, 24, 158] (fun s t i wr => ∃ k : Nat, k ≤ ss.length ∧ i = .int .i64 k ∧ s = .int .i64 (dws bs ss k) ∧ t = .int .i64 (tus bs ss k) ∧ Rw wr n1 bs.length (nxv ss k) ∧ Rw wr n2 bs.length (dnv bs ss un k) ∧ w8.grownBy wr none) (fun _ _ i _ => ss.length - (intOf i).toNat)
          case atStart => exact ⟨0, Nat.zero_le _, rfl, rfl, rfl, HX.out.1, HX.out.2.1, HX.out.2.2⟩
          case round =>
            obtain ⟨k, hk, rfl, rfl, rfl, hnx, hdo, hg⟩ := hrel
            by_cases hlt : k < ss.length
            · as_aux_lemma =>
                obtain ⟨j, tt, hsg, hj, htt⟩ := HSO.out k hlt
                obtain ⟨hsl, hun⟩ := HGD.out k hlt
                obtain ⟨ad, rfl⟩ := some_of RS8.out (by omega)
                obtain ⟨adb, rfl⟩ := some_of RB8.out (by omega)
                obtain ⟨adl, rfl⟩ := some_of RL8.out (by omega)
                obtain ⟨u, v, dd, es, hbg⟩ : ∃ u v d s, bg bs j = (u, v, d, s) := ⟨_, _, _, _, rfl⟩
                have hj' : (sg ss k).1.toNat = j := by rw [hsg]; exact Int.toNat_natCast j
                have hdd : dw bs j = dd := by unfold dw; rw [hbg]
                have hes : ev bs j = es := by unfold ev; rw [hbg]
                have hn := ab_num HAB.out hj
                rw [hbg] at hn
                replace hn : 1 ≤ dd ∧ dd ≤ 10000 ∧ dd ≤ es ∧ es ≤ 10000 := hn
                obtain ⟨s1, s2, s3⟩ := slot_yes hsl
                have hsj : (sg ss k).1 = (j : Int) := by rw [hsg]
                have hst : (sg ss k).2 = (tt : Int) := by rw [hsg]
                have htwo : (cnt ss j k : Int) * es ≤ (tt : Int) := by
                  unfold planNum.two at s2
                  rw [hj', hes, hst] at s2
                  exact of_decide_eq_true s2
                rw [hst] at hun
                have hcb := cnt_bd bs ss k j (by omega) (by rw [hes]; omega) (by rw [hes]; omega)
                rw [hes] at hcb
                have hcl := cnt_le ss j k
                have hdl := missNum.don_le bs ss un j k
                have hfin : missNum.fin bs ss k = (tt : Int) + dd := by unfold missNum.fin; rw [hj', hst, hdd]
                have hltv : max 0 ((tt : Int) + dd - ((cnt ss j k : Int) + 1) * es) = ltv bs ss k := by
                  unfold ltv planDue.du
                  rw [hj', hst, hdd, hes]
                  omega
                have hd1 : dws bs ss (k + 1) = dws bs ss k + dd := by
                  show dws bs ss k + dw bs (sg ss k).1.toNat = _
                  rw [hj', hdd]
                obtain ⟨b1, b2, b3, b4⟩ := HSU.out k hk
                obtain ⟨LV, hLV⟩ : ∃ LV, ltv bs ss k = LV := ⟨_, rfl⟩
                rw [hLV] at hltv
                have hltv0 := hltv
                have HC := Lib.hid (fun (w' : World) (g : w8.grownBy w' none) => And.intro (slot_at (RS8.out.kept0 g (Nat.le_refl _)) hlt hsg) (And.intro (beam_at (RB8.out.kept0 g (Nat.le_refl _)) hj hbg) (show w'.cell? (adl.add k) = some (.int .i64 LV) by rw [← hLV]; exact one_at (RL8.out.kept0 g (Nat.le_refl _)) hlt)))
                have HNX := Lib.hid (nx_set (ss := ss) (k := k) (n := bs.length) hsj hj)
                have HDS := Lib.hid (fun (h : (tt : Int) + dd ≤ un) => dn_set (bs := bs) (ss := ss) (u := un) (k := k) (n := bs.length) hsj hj (by rw [hfin]; exact h))
                have HDP := Lib.hid (fun (h : ¬ (tt : Int) + dd ≤ un) => dn_pass (bs := bs) (ss := ss) (u := un) (k := k) (n := bs.length) (by rw [hfin]; exact h))
                have HD1 := Lib.hid hd1
                have HTU := Lib.hid (show tus bs ss (k + 1) = tus bs ss k + (if k = 0 then 0 else tu bs (sg ss (k - 1)).1.toNat (sg ss k).1.toNat) from rfl)
                have HCN2 := Lib.hid (show cnt ss j (k + 1) = cnt ss j k + 1 from by show cnt ss j k + _ = _; rw [if_pos hsj])
                have HSL := Lib.hid (And.intro s3 (And.intro hj' hst))
                have HBG := Lib.hid hbg
                have HR0 := Lib.hid (And.intro hnx (And.intro hdo hg))
                have n0 : wr.cell? ⟨n1, j, none⟩ = some (.int .i64 (cnt ss j k : Nat)) := hnx.at_ hj
                obtain ⟨⟨c0, c1⟩, ⟨_, d1', d2', d3'⟩, _⟩ := HC.out wr hg
                have j0 : (0 : Int) ≤ (j : Int) := by omega
                have j1 : (j : Int) < (bs.length : Int) := by omega
                have jn : ¬ (j : Int) < 0 := by omega
                have jn2 : ¬ (bs.length : Int) ≤ (j : Int) := by omega
                have k0 : (0 : Int) ≤ (k : Int) := by omega
                have k1 : (k : Int) < (ss.length : Int) := by omega
                have tn : ¬ un ≤ (tt : Int) := by omega
                have hk2 : k ≤ 200 := by omega
                have es0 : 0 ≤ es := by omega
                clear hsg hj' hdd hes s1 s2 s3 hsj hst hsl hfin hltv hLV hd1 hbg hnx hdo hg
                generalize dws bs ss k = PS at *
                generalize tus bs ss k = QS at *
                generalize hCN : cnt ss j k = CN at *
                generalize hDN : missNum.don bs ss un j k = DN at *
                obtain ⟨P1, hP1⟩ : ∃ P, (CN : Int) * es = P := ⟨_, rfl⟩
                obtain ⟨P2, hP2⟩ : ∃ P, ((CN : Int) + 1) * es = P := ⟨_, rfl⟩
                have hP12 : P2 = P1 + es := by rw [← hP2, ← hP1, Int.add_mul, Int.one_mul]
                rw [hP1] at htwo hcb
                have tp : ¬ (tt : Int) < P1 := by omega
                have wp1 : IntKind.i64.wrap P1 = P1 := by rw [IntKind.wrap_i64]; omega
                have wp2 : IntKind.i64.wrap P2 = P2 := by rw [IntKind.wrap_i64]; omega
                have wc : IntKind.i64.wrap ((CN : Int) + 1) = (CN : Int) + 1 := by rw [IntKind.wrap_i64]; omega
                have wd : IntKind.i64.wrap ((DN : Int) + 1) = (DN : Int) + 1 := by rw [IntKind.wrap_i64]; omega
                have we : IntKind.i64.wrap ((tt : Int) + dd) = (tt : Int) + dd := by rw [IntKind.wrap_i64]; omega
                have wl : IntKind.i64.wrap ((tt : Int) + dd - P2) = (tt : Int) + dd - P2 := by rw [IntKind.wrap_i64]; omega
                have ws : IntKind.i64.wrap (PS + dd) = PS + dd := by rw [IntKind.wrap_i64]; omega
                have hmx := fun w => max2c 2 w ((tt : Int) + dd - P2) LV (by rw [← hP2]; exact hltv0)
                have hds : ¬ LV ≠ LV := by simp
                have HW := Lib.hid (And.intro wp2 (And.intro wc (And.intro wd (And.intro we (And.intro wl (And.intro ws hmx))))))
                have HN := Lib.hid (And.intro hlt (And.intro hn (And.intro hj htt)))
                have HPP := Lib.hid hP2
                have HIN := Lib.hid (And.intro hi0 (And.intro hz0 (And.intro hz1 hz2)))
                have HBB := Lib.hid (And.intro b1 (And.intro b2 (And.intro b3 b4)))
                have HCN := Lib.hid hCN
                have HDN := Lib.hid hDN
                have H8 := Lib.hid (And.intro g80 g12)
                clear hP12 htwo hcb wp2 wc wd we wl ws hmx hds hn htt hP2 d1' d2' hltv0 hi0 hz0 hz1 hz2 b1 b2 b3 b4 hT hD t1 d1 hCN hDN hcl hdl u0 u1 hslen es0 hk2 h1 h4 hun hm hy hl hgt hquo hz hzy g12 g80
                go_wp2_with fail
                go_quiet (fail)
                have gA := gb_drewN wr nq none
                obtain ⟨hnx, hdo, hg⟩ := HR0.out
                have NA := hnx.keep gA (by simp)
                have DA := hdo.keep gA (by simp)
                have GA := hg.trans gA
                generalize wr.drewN nq = wA at *
                clear n0 c0 c1 d3' gA hnx hdo hg HR0
                have n0 : wA.cell? ⟨n1, j, none⟩ = some (.int .i64 (CN : Nat)) := by have h := NA.at_ hj; unfold nxv at h; rwa [HCN.out] at h
                have f0 := NA.ice j
                have hput := NA.put j (.int .i64 ((CN : Nat) + 1)) HNX.out
                have HNB := Lib.hid (And.intro hput.1 (And.intro (DA.keep hput.2 (by intro e; injection e with e; exact hn12 e)) (gb_new GA hput.2 (by intro g e; injection e with e; have := H8.out.1; omega))))
                have wc := HW.out.2.1
                clear NA DA GA hput
                go_wp2_with fail
                generalize (wA.setCell ⟨n1, j, none⟩ (.int .i64 ((CN : Int) + 1))) = wB at *
                clear n0 f0 wc tp wp1 hP1 jn jn2 tn
                obtain ⟨⟨_, c1⟩, ⟨_, _, d2', _⟩, _⟩ := HC.out wB HNB.out.2.2
                have we := HW.out.2.2.2.1
                go_quiet (fail)
                have gA := gb_drewN wB nq none
                obtain ⟨hnx, hdo, hg⟩ := HNB.out
                have NA := hnx.keep gA (by simp)
                have HR0 := Lib.hid (And.intro NA (And.intro (hdo.keep gA (by simp)) (hg.trans gA)))
                generalize wB.drewN nq = wC at *
                clear c1 d2' gA hnx hdo hg HNB we
                have n0 : wC.cell? ⟨n1, j, none⟩ = some (.int .i64 ((CN : Int) + 1)) := by have h := NA.at_ hj; unfold nxv at h; rw [HCN2.out] at h; rw [h]; simp
                obtain ⟨_, ⟨_, _, _, d3'⟩, l0⟩ := HC.out wC HR0.out.2.2
                have wp2 := HW.out.1
                have wl := HW.out.2.2.2.2.1
                have hmx := HW.out.2.2.2.2.2.2
                have hP2 := HPP.out
                clear NA
                go_wp2_with fail
                go_quiet (fail)
                have gA := gb_drewN wC nq none
                obtain ⟨hnx, hdo, hg⟩ := HR0.out
                have ND := hnx.keep gA (by simp)
                have DD := hdo.keep gA (by simp)
                have GD := hg.trans gA
                generalize wC.drewN nq = wD at *
                clear n0 d3' l0 gA hnx hdo hg HR0
                have m0 : wD.cell? ⟨n2, j, none⟩ = some (.int .i64 (DN : Nat)) := by have h := DD.at_ hj; unfold dnv at h; rwa [HDN.out] at h
                have f1 := DD.ice j
                have wd := HW.out.2.2.1
                have ws := HW.out.2.2.2.2.2.1
                obtain ⟨_, ⟨_, _, d2', _⟩, _⟩ := HC.out wD GD
                by_cases hk0 : k = 0
                · as_aux_lemma =>
                    have HT1 := Lib.hid (show tus bs ss (k + 1) = QS by rw [HTU.out, if_pos hk0, Int.add_zero])
                    have z3 : ¬ (0 : Int) < (k : Int) := by omega
                    have z4 : ¬ 0 < k := by omega
                    clear hk0
                    by_cases hf : (tt : Int) + dd ≤ un
                    · as_aux_lemma =>
                        have hput := DD.put j (.int .i64 ((DN : Nat) + 1)) (HDS.out hf)
                        have HE := Lib.hid (And.intro (ND.keep hput.2 (by intro e; injection e with e; exact hn12 e.symm)) (And.intro hput.1 (gb_new GD hput.2 (by intro g e; injection e with e; have := H8.out; omega))))
                        obtain ⟨_, ⟨_, _, e2', _⟩, _⟩ := HC.out _ HE.out.2.2
                        clear hput ND DD GD
                        go_wp2_with fail
                        go_roundw
                        case rel => exact ⟨k + 1, HN.out.1, by go_num, by rw [HD1.out], by rw [HT1.out], HE.out.1, HE.out.2.1, HE.out.2.2⟩
                        case measure => have := HN.out.1; simp [intOf]; omega
                    · as_aux_lemma =>
                        have hf' : un < (tt : Int) + dd := by omega
                        have HE := Lib.hid (And.intro ND (And.intro (show Rw wD n2 bs.length (dnv bs ss un (k + 1)) by unfold Rw; rw [← HDP.out hf']; exact DD) GD))
                        clear hf ND DD GD
                        go_wp2_with fail
                        go_roundw
                        case rel => exact ⟨k + 1, HN.out.1, by go_num, by rw [HD1.out], by rw [HT1.out], HE.out.1, HE.out.2.1, HE.out.2.2⟩
                        case measure => have := HN.out.1; simp [intOf]; omega
                · as_aux_lemma =>
                    obtain ⟨q, hq⟩ : ∃ q : Nat, k = q + 1 := ⟨k - 1, by omega⟩
                    have hkl := HN.out.1
                    have hql : q < ss.length := by omega
                    obtain ⟨j', t', hsg', hj', ht'⟩ := HSO.out q hql
                    obtain ⟨u2, v2, dq, sq, hbg'⟩ : ∃ u v d s, bg bs j' = (u, v, d, s) := ⟨_, _, _, _, rfl⟩
                    have hbg := HBG.out
                    have hsj' : (sg ss q).1.toNat = j' := by rw [hsg']; exact Int.toNat_natCast j'
                    have hb1 := ab_bd HAB.out hj
                    have hb2 := ab_bd HAB.out hj'
                    have hdr1 := (bb_yes (show bb (u, v, dd, es) = true by rw [← hbg]; exact ab_at HAB.out hj)).1
                    have hdr2 := (bb_yes (show bb (u2, v2, dq, sq) = true by rw [← hbg']; exact ab_at HAB.out hj')).1
                    have hnq := ab_num HAB.out hj'
                    rw [hbg'] at hnq hb2
                    rw [hbg] at hb1
                    replace hb1 : planNum.Bd u v := hb1
                    replace hb2 : planNum.Bd u2 v2 := hb2
                    replace hnq : 1 ≤ dq ∧ dq ≤ 10000 ∧ dq ≤ sq ∧ sq ≤ 10000 := hnq
                    obtain ⟨TU, hTU⟩ : ∃ T, sw u2 v2 u v = T := ⟨_, rfl⟩
                    obtain ⟨c1', c2'⟩ := sw_bd hb2 hb1
                    rw [hTU] at c1' c2'
                    have htu : tu bs j' j = TU := by unfold tu; rw [hbg, hbg']; exact hTU
                    have HT1 := Lib.hid (show tus bs ss (k + 1) = QS + TU by rw [HTU.out, if_neg hk0, show k - 1 = q by omega, hsj', HSL.out.2.1, htu])
                    have hthree : (t' : Int) + dq + TU ≤ (tt : Int) := by
                      have h := of_decide_eq_true HSL.out.1
                      rw [show k - 1 = q by omega, hsj', HSL.out.2.1, HSL.out.2.2, htu, hsg', show dw bs j' = dq by unfold dw; rw [hbg']] at h
                      rcases h with h | h
                      · exact absurd h hk0
                      · exact h
                    have HSW := Lib.hid (fun w => swC.impl_c 0 u2 v2 u v w (Nat.zero_le _))
                    rw [show swC.sr u2 v2 u v = (TU, true) by unfold swC.sr; rw [if_pos ⟨hdr2, hdr1⟩, hTU]] at HSW
                    have HCQ := Lib.hid (fun (w' : World) (g : w8.grownBy w' none) => And.intro (slot_at (RS8.out.kept0 g (Nat.le_refl _)) hql hsg') (beam_at (RB8.out.kept0 g (Nat.le_refl _)) hj' hbg'))
                    have hBB := HBB.out
                    have hkn2 : k ≤ 200 := Nat.le_trans hk HSS.out
                    have q0 : (0 : Int) ≤ (q : Int) := by omega
                    have q1 : (q : Int) < (ss.length : Int) := by omega
                    have q2 : IntKind.i64.wrap ((k : Int) - 1) = (q : Int) := by rw [IntKind.wrap_i64]; omega
                    have q4 : IntKind.i64.wrap (q : Int) = (q : Int) := by rw [IntKind.wrap_i64]; omega
                    have hqk : (k : Int) - 1 = (q : Int) := by omega
                    have i0' : (0 : Int) ≤ (j' : Int) := by omega
                    have i1' : (j' : Int) < (bs.length : Int) := by omega
                    have z3 : (0 : Int) < (k : Int) := by omega
                    have z4 : 0 < k := by omega
                    have q5 : IntKind.i64.wrap (QS + TU) = QS + TU := by rw [IntKind.wrap_i64]; omega
                    have q6 : IntKind.i64.wrap ((t' : Int) + dq) = (t' : Int) + dq := by rw [IntKind.wrap_i64]; omega
                    have q7 : IntKind.i64.wrap ((t' : Int) + dq + TU) = (t' : Int) + dq + TU := by rw [IntKind.wrap_i64]; omega
                    have h3n : ¬ (tt : Int) < (t' : Int) + dq + TU := by omega
                    have HQ7 := Lib.hid (And.intro q5 (And.intro q6 (And.intro q7 h3n)))
                    have hq' := Lib.hid hq
                    clear hsg' hbg' hbg hsj' hb1 hb2 hdr1 hdr2 hnq hTU c1' c2' htu hthree hBB q5 q6 q7 h3n hk0 hq ht' hkn2 hkl
                    by_cases hf : (tt : Int) + dd ≤ un
                    · as_aux_lemma =>
                        have hput := DD.put j (.int .i64 ((DN : Nat) + 1)) (HDS.out hf)
                        have HE := Lib.hid (And.intro (ND.keep hput.2 (by intro e; injection e with e; exact hn12 e.symm)) (And.intro hput.1 (gb_new GD hput.2 (by intro g e; injection e with e; have := H8.out; omega))))
                        obtain ⟨_, ⟨_, _, e2', _⟩, _⟩ := HC.out _ HE.out.2.2
                        clear hput ND DD GD
                        go_wp2_with fail
                        clear e2' m0 f1 d2' hf wd ws
                        generalize (wD.setCell ⟨n2, j, none⟩ (.int .i64 ((DN : Int) + 1))) = wE at *
                        obtain ⟨_, ⟨e0, e1, _, _⟩, _⟩ := HC.out wE HE.out.2.2
                        obtain ⟨⟨ht0, _⟩, ⟨f0', f1', _, _⟩⟩ := HCQ.out wE HE.out.2.2
                        have gE := World.grownBy.refl wE none
                        go_region_held3 (fun w' => w'.cell? (ad.add (q * 2)) = some (.int .i64 j') ∧ w'.cell? (adb.add (j * 4)) = some (.int .i64 u) ∧ w'.cell? ⟨(adb.add (j * 4)).block, (adb.add (j * 4)).off + 1, none⟩ = some (.int .i64 v) ∧ w'.cell? (adb.add (j' * 4)) = some (.int .i64 u2) ∧ w'.cell? ⟨(adb.add (j' * 4)).block, (adb.add (j' * 4)).off + 1, none⟩ = some (.int .i64 v2) ∧ wE.grownBy w' none)
                          (first
                            | (go_split_ands
                               exact ⟨hg.cell (by assumption) (by simp), hg.cell (by assumption) (by simp), hg.cell (by assumption) (by simp), hg.cell (by assumption) (by simp), hg.cell (by assumption) (by simp), World.grownBy.trans (by assumption) hg⟩)
                            | exact ⟨ht0, e0, e1, f0', f1', ⟨gE.os, gE.tape, gE.output, gE.size, gE.block⟩⟩)
                          ((go_at_call 35; refine (HSW.out _).mono ?_; rintro e w6 ⟨rfl, hg⟩; have gT : wE.grownBy w6 none := (by refine World.grownBy.trans ?_ hg; exact ⟨gE.os, gE.tape, gE.output, gE.size, gE.block⟩)))
                        have HF := Lib.hid (And.intro (HE.out.1.keep gT (by simp)) (And.intro (HE.out.2.1.keep gT (by simp)) (HE.out.2.2.trans gT)))
                        clear e0 e1 ht0 f0' f1' gE gT HE HSW
                        obtain ⟨⟨_, c1⟩, _⟩ := HC.out w6 HF.out.2.2
                        obtain ⟨⟨ht0, ht1⟩, ⟨_, _, dq2, _⟩⟩ := HCQ.out w6 HF.out.2.2
                        obtain ⟨q5, q6, q7, h3n⟩ := HQ7.out
                        go_wp2_with fail
                        go_quiet (fail)
                        have gB := gb_drewN w6 nq none
                        have HZ := Lib.hid (And.intro (HF.out.1.keep gB (by simp)) (And.intro (HF.out.2.1.keep gB (by simp)) (HF.out.2.2.trans gB)))
                        generalize w6.drewN nq = wF at *
                        have hss : ss.length ≤ 200 := HSS.out
                        have hkk : k < ss.length := HN.out.1
                        go_wp2_with fail
                        go_roundw
                        case rel => exact ⟨k + 1, HN.out.1, by go_num, by rw [HD1.out], by rw [HT1.out], HZ.out.1, HZ.out.2.1, HZ.out.2.2⟩
                        case measure => have := HN.out.1; simp [intOf]; omega
                    · as_aux_lemma =>
                        have hf' : un < (tt : Int) + dd := by omega
                        have HE := Lib.hid (And.intro ND (And.intro (show Rw wD n2 bs.length (dnv bs ss un (k + 1)) by unfold Rw; rw [← HDP.out hf']; exact DD) GD))
                        clear hf ND DD GD
                        go_wp2_with fail
                        clear m0 f1 d2' hf' wd ws
                        obtain ⟨wE, rfl⟩ : ∃ wE, wE = wD := ⟨_, rfl⟩
                        obtain ⟨_, ⟨e0, e1, _, _⟩, _⟩ := HC.out wE HE.out.2.2
                        obtain ⟨⟨ht0, _⟩, ⟨f0', f1', _, _⟩⟩ := HCQ.out wE HE.out.2.2
                        have gE := World.grownBy.refl wE none
                        go_region_held3 (fun w' => w'.cell? (ad.add (q * 2)) = some (.int .i64 j') ∧ w'.cell? (adb.add (j * 4)) = some (.int .i64 u) ∧ w'.cell? ⟨(adb.add (j * 4)).block, (adb.add (j * 4)).off + 1, none⟩ = some (.int .i64 v) ∧ w'.cell? (adb.add (j' * 4)) = some (.int .i64 u2) ∧ w'.cell? ⟨(adb.add (j' * 4)).block, (adb.add (j' * 4)).off + 1, none⟩ = some (.int .i64 v2) ∧ wE.grownBy w' none)
                          (first
                            | (go_split_ands
                               exact ⟨hg.cell (by assumption) (by simp), hg.cell (by assumption) (by simp), hg.cell (by assumption) (by simp), hg.cell (by assumption) (by simp), hg.cell (by assumption) (by simp), World.grownBy.trans (by assumption) hg⟩)
                            | exact ⟨ht0, e0, e1, f0', f1', ⟨gE.os, gE.tape, gE.output, gE.size, gE.block⟩⟩)
                          ((go_at_call 35; refine (HSW.out _).mono ?_; rintro e w6 ⟨rfl, hg⟩; have gT : wE.grownBy w6 none := (by refine World.grownBy.trans ?_ hg; exact ⟨gE.os, gE.tape, gE.output, gE.size, gE.block⟩)))
                        have HF := Lib.hid (And.intro (HE.out.1.keep gT (by simp)) (And.intro (HE.out.2.1.keep gT (by simp)) (HE.out.2.2.trans gT)))
                        clear e0 e1 ht0 f0' f1' gE gT HE HSW
                        obtain ⟨⟨_, c1⟩, _⟩ := HC.out w6 HF.out.2.2
                        obtain ⟨⟨ht0, ht1⟩, ⟨_, _, dq2, _⟩⟩ := HCQ.out w6 HF.out.2.2
                        obtain ⟨q5, q6, q7, h3n⟩ := HQ7.out
                        go_wp2_with fail
                        go_quiet (fail)
                        have gB := gb_drewN w6 nq none
                        have HZ := Lib.hid (And.intro (HF.out.1.keep gB (by simp)) (And.intro (HF.out.2.1.keep gB (by simp)) (HF.out.2.2.trans gB)))
                        generalize w6.drewN nq = wF at *
                        have hss : ss.length ≤ 200 := HSS.out
                        have hkk : k < ss.length := HN.out.1
                        go_wp2_with fail
                        go_roundw
                        case rel => exact ⟨k + 1, HN.out.1, by go_num, by rw [HD1.out], by rw [HT1.out], HZ.out.1, HZ.out.2.1, HZ.out.2.2⟩
                        case measure => have := HN.out.1; simp [intOf]; omega
            · as_aux_lemma =>
                obtain rfl : k = ss.length := by omega
                have HO := Lib.hid (And.intro hdo hg)
                clear hnx hdo hg
                go_wp2_with fail
                obtain ⟨wz, rfl⟩ : ∃ wz, wz = wr := ⟨_, rfl⟩
                go_loopw [308] (fun i wr => ∃ m : Nat, m ≤ bs.length ∧ i = .int .i64 m ∧ wz.grownBy wr none) (fun i _ => bs.length - (intOf i).toNat)
                case atStart => exact ⟨0, Nat.zero_le _, rfl, World.grownBy.refl _ _⟩
                case round =>
                  obtain ⟨m, hmn, rfl, hg⟩ := hrel
                  have hg8 := HO.out.2.trans hg
                  by_cases hlt : m < bs.length
                  · as_aux_lemma =>
                      obtain ⟨adb, rfl⟩ := some_of RB8.out (by omega)
                      obtain ⟨adm, rfl⟩ := some_of RM8.out (by omega)
                      obtain ⟨u, v, dd, es, hbg⟩ : ∃ u v d s, bg bs m = (u, v, d, s) := ⟨_, _, _, _, rfl⟩
                      have hn := ab_num HAB.out hlt
                      rw [hbg] at hn
                      replace hn : 1 ≤ dd ∧ dd ≤ 10000 ∧ dd ≤ es ∧ es ≤ 10000 := hn
                      have hes : ev bs m = es := by unfold ev; rw [hbg]
                      obtain ⟨_, _, _, e3⟩ := beam_at (RB8.out.kept0 hg8 (Nat.le_refl _)) hlt hbg
                      have l0 : wr.cell? (adm.add m) = some (.int .i64 (missNum.ms bs ss un m)) := one_at (RM8.out.kept0 hg8 (Nat.le_refl _)) hlt
                      have m0 : wr.cell? ⟨n2, m, none⟩ = some (.int .i64 (missNum.don bs ss un m ss.length : Nat)) := (HO.out.1.keep hg (by simp)).at_ hlt
                      have hms : max 0 (un / es - (missNum.don bs ss un m ss.length : Nat)) = missNum.ms bs ss un m := by unfold missNum.ms; rw [hes]
                      have hdl := missNum.don_le bs ss un m ss.length
                      have hsl := HSS.out
                      have hs0 : es ≠ 0 := by omega
                      have e1 : Int.tdiv un es = un / es := Int.tdiv_eq_ediv_of_nonneg u0
                      obtain ⟨p0, p1⟩ := missC.quo_bd (u := un) (s := es) ⟨u0, by omega⟩ (by omega)
                      generalize missNum.ms bs ss un m = MS at *
                      generalize missNum.don bs ss un m ss.length = DN at *
                      generalize un / es = QV at *
                      have wq : IntKind.i64.wrap QV = QV := by rw [IntKind.wrap_i64]; omega
                      have ws : IntKind.i64.wrap (QV - (DN : Int)) = QV - (DN : Int) := by rw [IntKind.wrap_i64]; omega
                      have hmx := fun w => max2c 2 w (QV - (DN : Int)) MS hms
                      have m0' : (0 : Int) ≤ (m : Int) := by omega
                      have m1 : (m : Int) < (bs.length : Int) := by omega
                      have HG := Lib.hid hg
                      have HL := Lib.hid hlt
                      clear hn hes hbg hms hdl hsl p0 p1 hg hg8 hi0 hz0 hz1 hz2 hT hD t1 d1 h1 h4 hm hy hl hgt hquo hz hzy g12 g80
                      go_wp2_with fail
                      go_quiet (fail)
                      have gB := HG.out.trans (gb_drewN wr nq none)
                      generalize wr.drewN nq = wF at *
                      have hb4 : bs.length ≤ 4 := HB4.out
                      have hmm : m < bs.length := HL.out
                      go_wp2_with fail
                      go_roundw
                      case rel => exact ⟨m + 1, HL.out, by go_num, gB⟩
                      case measure => have := HL.out; simp [intOf]; omega
                  · as_aux_lemma =>
                      have HE := Lib.hid (gb_below (HG8.out.trans hg8))
                      clear hg hg8
                      go_wp2_with fail
                      go_ret
                      exact ⟨rfl, HE.out⟩
  · have hl' : 1048576 < z.length ∨ 1048576 < y.length := by omega
    go_enter Try.func5, Try.ntmps5
    go_wp2_with fail
    refine (long_yes _ _ _ _ _ _ _ hl' hm hy).mono ?_
    rintro e w' ⟨rfl, rfl⟩
    go_wp2_with fail
    go_ret
    exact ⟨rfl, Below.refl _ _⟩

end Go.Proofs.Ytbefoiikbbjjfaa.plansLaw
