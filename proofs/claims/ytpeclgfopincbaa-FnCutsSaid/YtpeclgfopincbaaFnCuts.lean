/- A cut has the powers of its directions, no number is greater than its peak, which is a lobe, lobes and dips are so as told, and levels below the peak are 0 there and never greater: the law answers true at every input. No condition. -/
import Derived.Test.YtpeclgfopincbaaRows
import Derived.Test.YtpeclgfopincbaaSlc
import Derived.Test.YtpeclgfopincbaaSmall
import Derived.Test.YtpeclgfopincbaaOpens
import Derived.Test.YtpeclgfopincbaaPlaceAll
import Derived.Test.YtpeclgfopincbaaListI
import Derived.Test.YtpeclgfopincbaaSrcAll
import Derived.Test.YtpeclgfopincbaaSteps
import Derived.Test.YtpeclgfopincbaaFloatAll
import Derived.Test.YtpeclgfopincbaaFWalk
import Derived.Test.YtpeclgfopincbaaFinWalk
import Derived.Test.YtpeclgfopincbaaRoot
import Derived.Test.YtpeclgfopincbaaFlAll
import Derived.Test.YtpeclgfopincbaaPhasor
import Derived.Test.YtpeclgfopincbaaBits
import Derived.Test.YtpeclgfopincbaaListC
import Derived.Test.YtpeclgfopincbaaListCC
import Derived.Test.YtpeclgfopincbaaSteerNum
import Derived.Test.YtpeclgfopincbaaSineIn
import Derived.Test.YtpeclgfopincbaaPolyNum
import Derived.Test.YtpeclgfopincbaaPolyW
import Derived.Test.YtpeclgfopincbaaPoly1
import Derived.Test.YtpeclgfopincbaaPoly2
import Derived.Test.YtpeclgfopincbaaGAll
import Derived.Test.YtpeclgfopincbaaPowW
import Derived.Test.YtpeclgfopincbaaPolyD
import Derived.Test.YtpeclgfopincbaaSteering
import Derived.Test.YtpeclgfopincbaaDotC
import Derived.Test.YtpeclgfopincbaaFine
import Derived.Test.YtpeclgfopincbaaDrawAll
import Derived.Test.YtpeclgfopincbaaB10
import Derived.Test.YtpeclgfopincbaaPat
import Derived.Test.YtpeclgfopincbaaPowAt
import Derived.Test.YtpeclgfopincbaaSkyNum
import Derived.Test.YtpeclgfopincbaaSkySeq
import Derived.Test.YtpeclgfopincbaaSkyI
import Derived.Test.YtpeclgfopincbaaCutSeq
import Derived.Test.YtpeclgfopincbaaCut
import Derived.Test.YtpeclgfopincbaaListF
import Derived.Test.YtpeclgfopincbaaCutI
import Derived.Test.YtpeclgfopincbaaCutDraw
import Derived.Test.YtpeclgfopincbaaSameC
import Derived.Test.YtpeclgfopincbaaPeak
import Derived.Test.YtpeclgfopincbaaReach
import Derived.Test.YtpeclgfopincbaaRuns
import Derived.Test.YtpeclgfopincbaaRuns2
import Derived.Test.YtpeclgfopincbaaRuns3
import Derived.Test.YtpeclgfopincbaaMarkF
import Derived.Test.YtpeclgfopincbaaMeanAll
import Derived.Test.YtpeclgfopincbaaTenAll
import Derived.Test.YtpeclgfopincbaaLvAll
import Derived.Test.YtpeclgfopincbaaRunsB
import Derived.Test.YtpeclgfopincbaaCutNum
import Derived.WalkKit
import Derived.ProofKit
import Derived.OpenShut
import Derived.ShutString
import Derived.ChangeOld
import Derived.Below
import Derived.Lib.Hide
import Derived.BigQuiet
import Derived.Deep.QuietTactic
import Derived.WalkLawsBesides
import Derived.Outline
import Derived.Deep.RegionWith
import Derived.Deep.LoopGhost
import Derived.Deep.RegionHeld3
import Derived.Laws.ComplexArith
import Derived.Deep.CutRange
import Derived.Deep.CutBlock
import Derived.Deep.DeepCutAuto
namespace Go.Proofs.Ytpeclgfopincbaa.fnCuts
open Go.ChangeShapes Go.WideShapes Go.ChangeAt Go.RowKit
open Go.ChangeMaps (open_string shut_string)
set_option linter.unusedVariables false
theorem own : ownKnob Try.prog.godebug = none := by kernel_rfl
theorem laidOut : laidOutB Try.prog = true := by kernel_rfl
open Go Ieee Go.RowKit
open Go.Proofs.Ytpeclgfopincbaa.sine Go.Proofs.Ytpeclgfopincbaa.float2 Go.Proofs.Ytpeclgfopincbaa.slc Go.Proofs.Ytpeclgfopincbaa.small Go.Proofs.Ytpeclgfopincbaa.opens Go.Proofs.Ytpeclgfopincbaa.places Go.Proofs.Ytpeclgfopincbaa.listP Go.Proofs.Ytpeclgfopincbaa.listI Go.Proofs.Ytpeclgfopincbaa.floats Go.Proofs.Ytpeclgfopincbaa.values Go.Proofs.Ytpeclgfopincbaa.phasor Go.Proofs.Ytpeclgfopincbaa.bits Go.Proofs.Ytpeclgfopincbaa.listC Go.Proofs.Ytpeclgfopincbaa.steerNum Go.Proofs.Ytpeclgfopincbaa.sineIn Go.Proofs.Ytpeclgfopincbaa.polyNum Go.Proofs.Ytpeclgfopincbaa.polyW Go.Proofs.Ytpeclgfopincbaa.gPoly Go.Proofs.Ytpeclgfopincbaa.gNum Go.Proofs.Ytpeclgfopincbaa.r8 Go.Proofs.Ytpeclgfopincbaa.fine Go.Proofs.Ytpeclgfopincbaa.b10 Go.Proofs.Ytpeclgfopincbaa.pat Go.Proofs.Ytpeclgfopincbaa.powAt Go.Proofs.Ytpeclgfopincbaa.skyNum Go.Proofs.Ytpeclgfopincbaa.skyI Go.Proofs.Ytpeclgfopincbaa.cutSeq Go.Proofs.Ytpeclgfopincbaa.cutI Go.Proofs.Ytpeclgfopincbaa.cutDraw Go.Proofs.Ytpeclgfopincbaa.drawR8 Go.Proofs.Ytpeclgfopincbaa.sameC Go.Proofs.Ytpeclgfopincbaa.cut Go.Proofs.Ytpeclgfopincbaa.listF Go.Proofs.Ytpeclgfopincbaa.peak Go.Proofs.Ytpeclgfopincbaa.runs Go.Proofs.Ytpeclgfopincbaa.markF Go.Proofs.Ytpeclgfopincbaa.meanNum Go.Proofs.Ytpeclgfopincbaa.mean Go.Proofs.Ytpeclgfopincbaa.logWalk Go.Proofs.Ytpeclgfopincbaa.tenths3 Go.Proofs.Ytpeclgfopincbaa.tenthsBd Go.Proofs.Ytpeclgfopincbaa.levels Go.Proofs.Ytpeclgfopincbaa.lobesI Go.Proofs.Ytpeclgfopincbaa.levelsI Go.Proofs.Ytpeclgfopincbaa.runsB Go.Proofs.Ytpeclgfopincbaa.cutNum

theorem same_nm (x : Nat) (w : World) (hx : (x : Int) ≤ 4294967295) :
    Calls Try.prog 21 #[.float .f32 x, .float .f32 x] w fun e w' => e = .returned (.bool true) ∧ w = w' := by
  have hl : ∀ w, Calls Try.prog 101 #[.float .f32 x, .float .f32 x] w fun e w' => e = .returned (.bool true) ∧ w = w' := by
    intro w
    go_enter Try.func101, Try.ntmps101
    go_wp2_with fail
    refine (spec_bits x _ hx).mono ?_
    rintro e w' ⟨rfl, rfl⟩
    go_wp2_with fail
    refine (spec_bits x _ hx).mono ?_
    rintro e w' ⟨rfl, rfl⟩
    go_wp2_with fail
    go_ret
    exact ⟨by simp, rfl⟩
  go_enter Try.func21, Try.ntmps21
  go_wp2_with fail
  refine (hl _).mono ?_
  rintro e w' ⟨rfl, rfl⟩
  go_wp2_with fail
  go_ret
  exact ⟨rfl, rfl⟩
theorem sq_all : ∀ k : Fin 80, ((k.val : Int) - 40) * ((k.val : Int) - 40) ≤ 1600 := by decide +kernel
theorem sq_in {x : Int} (h : -40 ≤ x ∧ x < 40) : x * x ≤ 1600 := by
  have := sq_all ⟨(x + 40).toNat, by omega⟩
  dsimp only at this
  rwa [show (((x + 40).toNat : Nat) : Int) - 40 = x by omega] at this
/-- Directions that a law draws, and four steps on. -/
theorem dir_in {u v : Int} (hu : -35 ≤ u ∧ u ≤ 35) (hv : -35 ≤ v ∧ v ≤ 35) (i : Nat) (hi : i ≤ 4) : dirB (u + (i : Int)) v = true := by
  have h1 := sq_in (x := u + (i : Int)) (by omega)
  have h2 := sq_in (x := v) (by omega)
  unfold dirB
  exact decide_eq_true ⟨by omega, by omega, by omega, by omega, by omega⟩
theorem add_from (g j : Nat) : (⟨g, 0, none⟩ : Addr).add j = ⟨g, j, none⟩ := by
  by_cases h : j = 0
  · subst h; simp [Addr.add]
  · simp [Addr.add, h]
theorem pcs_at (P : Int → Int → Nat) (a v : Int) (n j : Nat) (h : j < n) : (pcs P (cutL a v n))[j]? = some (.float .f32 (P (a + (j : Int)) v)) := by
  simp [pcs, cutL, h]

theorem gap_c (a b g : Nat) (w : World) (h : ((FloatKind.f64.format.order a b == some .lt) = true ∧ floatBits .sub .f64 b a = some g) ∨ ((FloatKind.f64.format.order a b == some .lt) = false ∧ floatBits .sub .f64 a b = some g)) :
    Calls Try.prog 29 #[.float .f64 a, .float .f64 b] w fun e w' => e = .returned (.float .f64 g) ∧ w = w' := by
  rcases h with ⟨h1, h2⟩ | ⟨h1, h2⟩
  all_goals
    have hs := fun w : World => run_ok (P := Try.prog) h2 rfl w 32
    go_enter Try.func29, Try.ntmps29
    go_wp2
    go_ret
    exact ⟨rfl, rfl⟩
theorem cvi6464 (w : World) (n : Int) : (convert 2 32 (.int .i64 n)).run Try.prog w = .ok (.float .f64 (floatOfInt .f64 n)) w :=
  run_convert_int_float w _ _ .i64 .f64 n (by rw [Try.underlying2]; rfl) Try.underlying32
theorem take_mem (ls : List Int) (q : Int) (k : Nat) (h : k < ls.length) : decide (q ∈ ls.take (k + 1)) = (decide (q ∈ ls.take k) || (ls[k] == q)) := by
  rw [List.take_succ_eq_append_getElem h]
  generalize ls.take k = L
  generalize ls[k] = x
  have hm : (q ∈ L ++ [x]) ↔ (q ∈ L ∨ q = x) := by simp
  by_cases h1 : q ∈ L
  · rw [decide_eq_true (hm.2 (.inl h1)), decide_eq_true h1]; rfl
  · by_cases h2 : q = x
    · rw [decide_eq_true (hm.2 (.inr h2)), h2]; simp
    · rw [decide_eq_false (fun h => (hm.1 h).elim h1 h2), decide_eq_false h1, Bool.false_or]
      exact (beq_eq_false_iff_ne.2 (fun e => h2 e.symm)).symm
/-- A level of a small cut. -/
theorem lvl_is {vs : List Nat} (h : ∀ x ∈ vs, x < 8) {q i : Nat} (hle : vs.getD i 0 ≤ vs.getD q 0) (hq : 0 < vs.getD q 0) :
    (vs.getD i 0 = 0 ∧ lvl (kx vs) (tnI (kx vs q)) i = -2000) ∨ (0 < vs.getD i 0 ∧ lvl (kx vs) (tnI (kx vs q)) i ≤ 0 ∧ -2000 < lvl (kx vs) (tnI (kx vs q)) i) := by
  have h1 : tnOk (kx vs i) = decide (0 < vs.getD i 0) := fw_tn (get_lt h i)
  unfold lvl
  rw [h1]
  by_cases hz : 0 < vs.getD i 0
  · rw [if_pos (decide_eq_true hz)]
    have := lv_all ⟨vs.getD i 0, get_lt h i⟩ ⟨vs.getD q 0, get_lt h q⟩ hz hle
    exact .inr ⟨hz, this.1, this.2.1⟩
  · rw [if_neg (by simpa using hz)]
    exact .inl ⟨by omega, rfl⟩
theorem lvl_q {vs : List Nat} (h : ∀ x ∈ vs, x < 8) {q : Nat} (hq : 0 < vs.getD q 0) : lvl (kx vs) (tnI (kx vs q)) q = 0 := by
  have h1 : tnOk (kx vs q) = decide (0 < vs.getD q 0) := fw_tn (get_lt h q)
  unfold lvl
  rw [h1, if_pos (decide_eq_true hq)]
  exact (lv_all ⟨vs.getD q 0, get_lt h q⟩ ⟨vs.getD q 0, get_lt h q⟩ hq (Nat.le_refl _)).2.2 rfl
attribute [local go_sem] cvi6464

set_option maxRecDepth 100000 in
set_option maxHeartbeats 8000000 in
theorem law (A A' : Option Addr) (c c' : Nat) (z y : List Int) (w : World) (hz : Byt z) (hy : Byt y) (hm : z.length ≤ 9223372036854775807) (hmy : y.length ≤ 9223372036854775807) (hr : Rd w w.heap.size A z.length (bt z)) (hr' : Rd w w.heap.size A' y.length (bt y)) :
    Calls Try.prog 4 #[.slice A z.length c, .slice A' y.length c'] w fun e w' => e = .returned (.bool true) ∧ Below w.heap.size w w' := by
  by_cases hl : z.length ≤ 1048576 ∧ y.length ≤ 1048576
  · obtain ⟨hl1, hl2⟩ := hl
    have hlong := fun w => long_no A A' z.length c y.length c' w hl1 hl2
    have hpl := Lib.hid (places_b10 A c z w hl1 hz hr)
    have HCD := Lib.hid (fun (w2 : World) (g : w.grownBy w2 none) => cut_b10 A c z w2 hl1 hz ((hr.kept0 g (Nat.le_refl _)).mono g.size))
    go_enter Try.func4, Try.ntmps4
    go_wp2_with fail
    refine (hlong _).mono ?_
    rintro e w' ⟨rfl, rfl⟩
    clear hlong
    go_wp2_with fail
    refine hpl.out.mono ?_
    rintro e w1 ⟨ps, A1, c1, hv, rfl, ho1, hg1⟩
    clear hpl
    have hps16 := (vp_yes hv).2.1
    have R1 := Lib.hid (Rd.of_lst ho1 rfl)
    have hr1 := hr'.kept0 hg1 (Nat.le_refl _)
    have HFI := Lib.hid (fine_b10 A' c' y ps.length w1 (by omega) hl2 hy (hr1.mono hg1.size))
    have HDI := Lib.hid (fun (w2 : World) (g : w1.grownBy w2 none) => dir_b10 A' c' y w2 hl2 hy ((hr1.kept0 g hg1.size).mono (Nat.le_trans hg1.size g.size)))
    clear ho1 hr1
    go_wp2_with fail
    refine HFI.out.mono ?_
    rintro e w2 ⟨zs, A2, c2, hzl, hzg, rfl, ho2, hg2⟩
    have R2 := Lib.hid (Rd.of_lst ho2 (Nat.mul_one _).symm)
    have HD2 := Lib.hid (HDI.out w2 hg2)
    clear HFI HDI ho2
    go_wp2_with fail
    refine HD2.out.mono ?_
    rintro e w3 ⟨du, dv, hdu, hdv, rfl, hg3⟩
    clear HD2
    have hwk : Wk (zs.map fW) := by
      intro x hx
      obtain ⟨g, hg, rfl⟩ := List.mem_map.1 hx
      exact fW_cb (hzg g hg)
    have hlen : (zs.map fW).length = ps.length := by rw [List.length_map, hzl]
    generalize zs.map fW = l at *
    have g23 := hg2.trans hg3
    have R13 := (R1.out.kept0 g23 (Nat.le_refl _)).mono g23.size
    have R23 := (R2.out.kept0 hg3 (Nat.le_refl _)).mono hg3.size
    have da := Dx.new w3 du dv
    have ga := World.grownBy_alloc w3 (.cells #[.int .i64 du, .int .i64 dv] 36) none
    have HCUT := Lib.hid (fun (wr : World) (g : w3.grownBy wr none) => cut_i A1 A2 c1 c2 w3.heap.size ps l du dv 4 wr (by omega) (by omega) (by omega) (fun i hi => dir_in hdu hdv i hi) hv hlen hwk (R13.kept0 g (Nat.le_refl _)) (R23.kept0 g (Nat.le_refl _)) g.size)
    have HPW := Lib.hid (fun (i : Nat) (hi : i ≤ 4) (wr : World) (g : w3.grownBy wr none) => pow_at A1 A2 c1 c2 w3.heap.size ps l (du + (i : Int)) dv wr hv (dir_in hdu hdv i hi) hlen hwk (R13.kept0 g (Nat.le_refl _)) (R23.kept0 g (Nat.le_refl _)) g.size)
    have HWB := Lib.hid (fun (i : Nat) (hi : i ≤ 4) => show ((pwd ps l (du + (i : Int)) dv : Nat) : Int) ≤ 4294967295 from nw_le _)
    have HGB := Lib.hid (hg1.trans (hg2.trans hg3))
    clear R1 R2 R13 R23 hv hzl hzg hwk hlen hr hr' hz hy g23 hg1 hg2 hg3
    generalize pwd ps l = P at *
    have da2 := da.facts
    obtain ⟨dc0, dc1, _, _⟩ := da2
    go_wp2_with fail
    refine (HCUT.out _ ga).mono ?_
    rintro e w4 ⟨A3, c3, rfl, ho3, hg4⟩
    have hgA := ga.trans hg4
    obtain ⟨g0, cap0, hs3⟩ := ownsRow_succ ho3
    injection hs3 with hA3 _ hc3
    subst hA3 hc3
    have R3 := Lib.hid (fun (wr : World) (g : w4.grownBy wr none) (j : Nat) (hj : j < 5) => show wr.cell? ⟨g0, j, none⟩ = some (.float .f32 (P (du + (j : Int)) dv)) from g.cell (by have h := ho3.cells rfl j _ (pcs_at P du dv 5 j hj); rwa [add_from] at h) (by simp))
    have HDA := Lib.hid (fun (wr : World) (g : w4.grownBy wr none) => And.intro (g.cell (hg4.cell dc0 (by simp)) (by simp)) (g.cell (hg4.cell dc1 (by simp)) (by simp)))
    obtain ⟨d0, d1⟩ := HDA.out w4 (World.grownBy.refl _ _)
    clear HCUT ho3 da dc0 dc1
    go_wp2_with fail
    go_loopw [10] (fun i wr => ∃ k : Nat, k ≤ 5 ∧ i = .int .i64 k ∧ w4.grownBy wr none) (fun i _ => (200 - intOf i).toNat)
    case atStart => exact ⟨0, by omega, rfl, World.grownBy.refl _ _⟩
    case round =>
      obtain ⟨k, hk, rfl, hg⟩ := hrel
      by_cases hlt : k < 5
      · have c3' := R3.out wr hg k hlt
        obtain ⟨d0, d1⟩ := HDA.out wr hg
        have b1 : (k : Int) < 5 := by omega
        have b2 : (0 : Int) ≤ (k : Int) := by omega
        have HP := Lib.hid (HPW.out k (by omega) wr (hgA.trans hg))
        have HX := Lib.hid (HWB.out k (by omega))
        generalize P (du + (k : Int)) dv = p at *
        generalize hU : du + (k : Int) = uk at *
        have hw1 : wrap64 (du + (k : Int)) = uk := by rw [hU]; unfold wrap64; omega
        go_wp2_with fail
        refine HP.out.mono ?_
        rintro e w5 ⟨rfl, hg5⟩
        have c5 := hg5.cell c3' (by simp)
        go_wp2_with fail
        refine (same_nm p _ HX.out).mono ?_
        rintro e w6 ⟨rfl, rfl⟩
        go_wp2_with fail
        go_roundw
        case rel => exact ⟨k + 1, by omega, by go_num, hg.trans hg5⟩
        case measure => simp [intOf]; omega
      · obtain rfl : k = 5 := by omega
        rw [show ((5 : Nat) : Int) = 5 from rfl]
        have HG := Lib.hid (HGB.out.trans (hgA.trans hg))
        have HC2 := Lib.hid (HCD.out wr HG.out)
        clear HCD hg hgA hg4 ga R3 HDA HPW HWB HGB d0 d1 hdu hdv hl1 hl2 hm hmy
        generalize hwr : wr = W0 at *
        clear hwr
        go_wp2_with fail
        refine HC2.out.mono ?_
        rintro e w5 ⟨vs, A4, c4, hv1, hv2, hv8, rfl, ho5, hg5⟩
        clear HC2
        have hn12 : (vs.length : Int) ≤ 12 := by omega
        have hn1 : (1 : Int) ≤ vs.length := by omega
        have R5 := Rd.of_lst ho5 (Nat.mul_one _).symm
        have G5 := HG.out.trans hg5
        obtain ⟨q, hpk, hqn, hall⟩ := peak_is hv8 hv1 hv2
        have HPK := Lib.hid (fun (wr : World) (g : w5.grownBy wr none) => impl_p A4 vs.length c4 w5.heap.size (kx vs) wr (by omega) g.size (R5.kept0 g (Nat.le_refl _)))
        rw [hpk] at HPK
        have HLO := Lib.hid (fun (wr : World) (g : w5.grownBy wr none) => lobes_c (kx vs) vs.length A4 c4 w5.heap.size wr (by omega) (R5.kept0 g (Nat.le_refl _)) g.size)
        have HDI := Lib.hid (fun (wr : World) (g : w5.grownBy wr none) => dips_c (kx vs) vs.length A4 c4 w5.heap.size wr (by omega) (R5.kept0 g (Nat.le_refl _)) g.size)
        have HME := Lib.hid (fun (wr : World) (g : w5.grownBy wr none) => mean_impl A4 vs.length c4 w5.heap.size (kx vs) wr hv1 (by omega) g.size (R5.kept0 g (Nat.le_refl _)))
        have HLE := Lib.hid (fun (wr : World) (g : w5.grownBy wr none) => levels_c (kx vs) vs.length (fun j _ => fw_wf (get_lt hv8 j)) A4 c4 w5.heap.size wr (by omega) (R5.kept0 g (Nat.le_refl _)) g.size)
        have hrl := fun s => show runsT s (kx vs) vs.length = (runs s (kx vs) vs.length vs.length 0, true) from if_pos ⟨hv1, by omega⟩
        rw [hrl] at HLO HDI
        have HRU := Lib.hid (fun (s : Bool) (A7 : Option Addr) (c7 : Nat) (wr : World) (g : w5.grownBy wr none) (hb : Rd wr wr.heap.size A7 (runs s (kx vs) vs.length vs.length 0).length (cls (runs s (kx vs) vs.length vs.length 0))) => show ∃ ad, A4 = some ad ∧ Calls Try.prog 30 #[.slice (some ad) vs.length c4, .slice A7 (runs s (kx vs) vs.length vs.length 0).length c7, .bool s] wr (fun e w' => e = .returned (.bool true) ∧ wr.grownBy w' none) by
          obtain ⟨ad, e, _, _⟩ := R5.at_ hv1
          subst e
          exact ⟨ad, rfl, runs_c s ad A7 c4 c7 wr.heap.size vs.length (kx vs) wr (by omega) (fun i _ => fw_nan (get_lt hv8 i)) (Nat.le_refl _) ((R5.kept0 g (Nat.le_refl _)).mono g.size) hb⟩)
        obtain ⟨ad, had, hac⟩ : ∃ ad, A4 = some ad ∧ ∀ j (h : j < vs.length) (wr : World), w5.grownBy wr none → wr.cell? (ad.add j) = some (.float .f32 (fw (vs.getD j 0))) := by
          obtain ⟨ad, e, _, _⟩ := R5.at_ hv1
          refine ⟨ad, e, fun j h wr g => ?_⟩
          obtain ⟨ad2, e2, _, c2⟩ := (R5.kept0 g (Nat.le_refl _)).at_ h
          rw [e] at e2
          injection e2 with e2
          subst e2
          exact c2
        subst had
        have HAC := Lib.hid hac
        have HALL := Lib.hid hall
        have HV8 := Lib.hid hv8
        have HG5 := Lib.hid G5
        have HMEM := Lib.hid (lobe_mem hv8 hqn hall vs.length 0 (Nat.zero_le _) (by omega))
        have HLVT := Lib.hid (show lvT (kx vs) vs.length = if tnOk (kx vs q) = true then (lvs (kx vs) (tnI (kx vs q)) vs.length, true) else ([], false) by
          have h1 : (0 ≤ pkI (kx vs) vs.length) ∧ (pkI (kx vs) vs.length).toNat = q := by
            unfold pkR at hpk
            by_cases hc : (1 ≤ vs.length ∧ vs.length ≤ 129) ∧ 0 ≤ pkI (kx vs) vs.length
            · rw [if_pos hc] at hpk
              injection hpk with h1 _
              exact ⟨hc.2, by omega⟩
            · rw [if_neg hc] at hpk
              injection hpk with _ h1
              cases h1
          unfold lvT
          rw [h1.2]
          by_cases ht : tnOk (kx vs q) = true
          · rw [if_pos ht, if_pos ⟨⟨hv1, by omega⟩, h1.1, ht⟩]
          · rw [if_neg ht, if_neg (fun h => ht h.2.2)])
        clear hac hall hv8 G5 ho5 R5 hrl hpk HG hg5
        have HLL := Lib.hid (runs_len true (kx vs) vs.length vs.length 0)
        have HLD := Lib.hid (runs_len false (kx vs) vs.length vs.length 0)
        generalize hLs : runs true (kx vs) vs.length vs.length 0 = ls at *
        go_wp2_with fail
        refine (HPK.out _ (World.grownBy.refl _ _)).mono ?_
        rintro e w6 ⟨rfl, h6⟩
        go_wp2_with fail
        refine (HLO.out _ h6).mono ?_
        rintro e w7 ⟨A7, c7, rfl, ho7, g7⟩
        have h7 := h6.trans g7
        go_wp2_with fail
        refine (HDI.out _ h7).mono ?_
        rintro e w8 ⟨A8, c8, rfl, ho8, g8⟩
        have h8 := h7.trans g8
        go_wp2_with fail
        refine (HME.out _ h8).mono ?_
        rintro e w9 ⟨rm, rfl, hrm, g9⟩
        have h9 := h8.trans g9
        have R7 := ((Rd.of_lst ho7 (Nat.mul_one _).symm).kept0 (g8.trans g9) (Nat.le_refl _)).mono (g8.trans g9).size
        have R8 := ((Rd.of_lst ho8 (Nat.mul_one _).symm).kept0 g9 (Nat.le_refl _)).mono g9.size
        have HR78 := Lib.hid (And.intro R7 R8)
        have HRM := Lib.hid hrm
        clear HPK HLO HDI HME hrm ho7 ho8 g7 g8 g9 h6 h7 h8 R7 R8
        have hq0 : (0 : Int) ≤ (q : Int) := by omega
        have hqn' : (q : Int) < vs.length := by omega
        have HH9 := Lib.hid h9
        clear h9
        go_wp2_with fail
        have HN12 := Lib.hid (And.intro hv1 hv2)
        generalize hnn : vs.length = n at *
        have HNN := Lib.hid hnn
        clear hnn
        go_loopw [23, 25] (fun sv i wr => ∃ k : Nat, k ≤ n ∧ i = .int .i64 k ∧ sv = .float .f64 (fd (sm vs k)) ∧ w9.grownBy wr none) (fun _ i _ => (200 - intOf i).toNat)
        case atStart => exact ⟨0, Nat.zero_le _, rfl, by rw [show fd (sm vs 0) = 0 from by show fd 0 = 0; decide +kernel], World.grownBy.refl _ _⟩
        case round =>
          obtain ⟨k, hk, rfl, rfl, hg⟩ := hrel
          by_cases hlt : k < n
          · have ck := HAC.out k hlt wr (HH9.out.trans hg)
            have cq := HAC.out q hqn wr (HH9.out.trans hg)
            obtain ⟨a1, a2⟩ := HALL.out k hlt
            have r1 := cvw (fw_wid (get_lt HV8.out k))
            have hsm := sm_le HV8.out k
            have r2 := fun w : World => run_ok (P := Try.prog) (fd_sum (a := sm vs k) (b := vs.getD k 0) (by have := HN12.out; omega) (get_lt HV8.out k)) rfl w 32
            have o0 := fw_ord (get_lt HV8.out k) (get_lt HV8.out q)
            have o1 : (FloatKind.f32.format.order (fw (vs.getD k 0)) (fw (vs.getD q 0)) == some .gt) = false := by
              rw [o0]
              have : compare (vs.getD k 0) (vs.getD q 0) ≠ .gt := fun h => by have := Nat.compare_eq_gt.1 h; omega
              simpa using this
            have o2 : k < q → (FloatKind.f32.format.order (fw (vs.getD k 0)) (fw (vs.getD q 0)) == some .eq) = false := fun h => by
              rw [o0]
              have : compare (vs.getD k 0) (vs.getD q 0) ≠ .eq := fun h2 => by have := Nat.compare_eq_eq.1 h2; have := a2 h; omega
              simpa using this
            have hS : fd (sm vs k + vs.getD k 0) = fd (sm vs (k + 1)) := rfl
            have HS := Lib.hid hS
            have k0 : (0 : Int) ≤ (k : Int) := by omega
            have k1 : (k : Int) < n := by omega
            clear a1 a2 hsm o0 hS
            generalize fd (sm vs k + vs.getD k 0) = f1 at *
            generalize fd (sm vs k) = f0 at *
            generalize fw (vs.getD k 0) = xk at *
            generalize fw (vs.getD q 0) = xq at *
            generalize fd (vs.getD k 0) = yk at *
            by_cases hkq : k < q
            · have o2' := o2 hkq
              have k2 : decide ((k : Int) < (q : Int)) = true := decide_eq_true (by omega)
              have k3 : (k : Int) < (q : Int) := by omega
              clear o2
              go_wp2_with fail
              go_quiet (fail)
              go_wp2_with fail
              go_roundw
              case rel => exact ⟨k + 1, by omega, by go_num, by rw [HS.out], hg.trans (gb_drewN _ _ _)⟩
              case measure => simp [intOf]; omega
            · have k2 : decide ((k : Int) < (q : Int)) = false := decide_eq_false (by omega)
              have k3 : decide (k < q) = false := decide_eq_false hkq
              have k4 : q ≤ k := by omega
              clear o2
              go_wp2_with fail
              go_quiet (fail)
              go_wp2_with fail
              go_roundw
              case rel => exact ⟨k + 1, by omega, by go_num, by rw [HS.out], hg.trans (gb_drewN _ _ _)⟩
              case measure => simp [intOf]; omega
          · obtain rfl : n = k := by omega
            have HH10 := Lib.hid (HH9.out.trans hg)
            have HR10 := Lib.hid (And.intro ((HR78.out.1.kept0 hg (Nat.le_refl _)).mono hg.size) ((HR78.out.2.kept0 hg (Nat.le_refl _)).mono hg.size))
            clear hg HH9 HR78
            generalize hwr2 : wr = W10 at *
            clear hwr2
            go_wp2_with fail
            obtain ⟨q1, m1, m2, p1, e1, e2, e3, e4, e5, e6, e7⟩ := mean_near (S := sm vs n) (n := n) (by have := sm_le HV8.out n; have := HN12.out; omega) HN12.out.1 HN12.out.2
            have hrm := mn_is HV8.out HN12.out.2 e1 e2 e3 e4 HRM.out
            obtain ⟨gg, hgap, hcm⟩ : ∃ gg, (∀ w : World, Calls Try.prog 29 #[.float .f64 p1, .float .f64 (fd (sm vs n))] w fun e w' => e = .returned (.float .f64 gg) ∧ w = w') ∧ (FloatKind.f64.format.order gg c001 == some .gt) = false := by
              rcases e7 with ⟨f1, g, f2, f3⟩ | ⟨f1, g, f2, f3⟩
              · exact ⟨g, fun w => gap_c _ _ _ w (.inl ⟨f1, f2⟩), f3⟩
              · exact ⟨g, fun w => gap_c _ _ _ w (.inr ⟨f1, f2⟩), f3⟩
            subst hrm
            have HGAP := Lib.hid hgap
            have hcv1 := cvw e5
            have hmu := fun w : World => run_ok (P := Try.prog) e6 rfl w 32
            have hcn : floatOfInt .f64 (n : Int) = fd n := rfl
            have HCN := Lib.hid hcn
            clear e1 e2 e3 e4 e5 e6 e7 HRM hgap hcn
            unfold c001 at hcm
            have hlsl : ls.length ≤ n := HLL.out
            have HLB := Lib.hid HLL.out
            have hfd : fd n = floatOfInt .f64 (n : Int) := rfl
            rw [hfd] at hmu
            clear hfd
            generalize fd (sm vs n) = FS at *
            go_loopw [24, 175] (fun fo i wr => ∃ k : Nat, k ≤ ls.length ∧ i = .int .i64 k ∧ fo = .bool (decide ((q : Int) ∈ ls.take k)) ∧ W10.grownBy wr none) (fun _ i _ => (200 - intOf i).toNat)
            case atStart => exact ⟨0, Nat.zero_le _, rfl, by simp, World.grownBy.refl _ _⟩
            case round =>
              obtain ⟨k, hk, rfl, rfl, hg⟩ := hrel
              by_cases hlt : k < ls.length
              · have HT := Lib.hid (take_mem ls q k hlt)
                obtain ⟨ad7, e7, _, cx⟩ := (HR10.out.1.kept0 hg (Nat.le_refl _)).at_ hlt
                subst e7
                rw [cls_get ls k hlt] at cx
                have k0 : (0 : Int) ≤ (k : Int) := by omega
                have k1 : (k : Int) < ls.length := by omega
                generalize ls[k] = y0 at *
                cases hb : decide ((q : Int) ∈ ls.take k)
                · rw [hb, Bool.false_or] at HT
                  clear hb
                  go_wp2_with fail
                  go_roundw
                  case rel => exact ⟨k + 1, by omega, by go_num, by rw [HT.out], hg⟩
                  case measure => simp [intOf]; omega
                · rw [hb, Bool.true_or] at HT
                  clear hb
                  go_wp2_with fail
                  go_roundw
                  case rel => exact ⟨k + 1, by omega, by go_num, by rw [HT.out], hg⟩
                  case measure => simp [intOf]; omega
              · obtain rfl : k = ls.length := by omega
                have hfo : decide ((q : Int) ∈ ls.take ls.length) = true := by rw [List.take_length]; exact decide_eq_true HMEM.out
                rw [hfo]
                have HH11 := Lib.hid (HH10.out.trans hg)
                have HR7 := Lib.hid ((HR10.out.1.kept0 hg (Nat.le_refl _)).mono hg.size)
                have HR8 := Lib.hid ((HR10.out.2.kept0 hg (Nat.le_refl _)).mono hg.size)
                clear hfo HR10 HH10 hg
                go_wp2_with fail
                refine (HGAP.out _).mono ?_
                rintro e w11 ⟨rfl, rfl⟩
                clear HGAP
                have RU1 := HRU.out true A7 c7 wr HH11.out (by rw [hLs]; exact HR7.out)
                rw [hLs] at RU1
                obtain ⟨ad', e', RU1⟩ := RU1
                injection e' with e'
                subst e'
                have RU1 := Lib.hid RU1
                have HRU2 := Lib.hid (fun (w2 : World) (g : wr.grownBy w2 none) => HRU.out false A8 c8 w2 (HH11.out.trans g) ((HR8.out.kept0 g (Nat.le_refl _)).mono g.size))
                clear HRU HR7 HR8
                go_wp2_with fail
                refine RU1.out.mono ?_
                rintro e w12 ⟨rfl, g12⟩
                obtain ⟨ad', e', RU2⟩ := HRU2.out w12 g12
                injection e' with e'
                subst e'
                have RU2 := Lib.hid RU2
                clear HRU2 RU1
                go_wp2_with fail
                refine RU2.out.mono ?_
                rintro e w13 ⟨rfl, g13⟩
                have h13 := HH11.out.trans (g12.trans g13)
                have HL2 := Lib.hid (HLE.out w13 h13)
                rw [HLVT.out] at HL2
                have H13 := Lib.hid h13
                clear RU2 HH11 g12 g13 h13 HLE HLVT hcm hmu hcv1 HCN
                have hq8 := get_lt HV8.out q
                have htn : tnOk (kx vs q) = decide (0 < vs.getD q 0) := fw_tn hq8
                have hzo := fw_zero hq8
                have cqq := HAC.out q hqn w13 H13.out
                by_cases hz : 0 < vs.getD q 0
                · rw [if_pos (by rw [htn]; exact decide_eq_true hz)] at HL2
                  have o1 : (FloatKind.f32.format.order (fw (vs.getD q 0)) 0 == some .gt) = true := by
                    rw [hzo, Nat.compare_eq_gt.2 hz]; rfl
                  have HLV := Lib.hid (fun i (hi : i < n) => lvl_is HV8.out (HALL.out i hi).1 hz)
                  have HLQ := Lib.hid (lvl_q HV8.out hz)
                  have HZ := Lib.hid (fun i => fw_zero (get_lt HV8.out i))
                  clear htn hzo hz hq8
                  generalize fw (vs.getD q 0) = xq at *
                  generalize tnI (kx vs q) = tq at *
                  go_wp2_with fail
                  refine HL2.out.mono ?_
                  rintro e w14 ⟨A9, c9, rfl, ho9, g14⟩
                  have cqq2 := g14.cell cqq (by simp)
                  have h14 := H13.out.trans g14
                  rw [lvs_len] at ho9 ⊢
                  have R9 := Lib.hid (fun (wr : World) (g : w14.grownBy wr none) => ((Rd.of_lst ho9 (Nat.mul_one _).symm).kept0 g (Nat.le_refl _)))
                  have H14 := Lib.hid h14
                  clear ho9 h14 HL2 cqq g14
                  go_wp2_with fail
                  clear cqq2
                  go_loopw [29] (fun i wr => ∃ k : Nat, k ≤ n ∧ i = .int .i64 k ∧ w14.grownBy wr none) (fun i _ => (200 - intOf i).toNat)
                  case atStart => exact ⟨0, Nat.zero_le _, rfl, World.grownBy.refl _ _⟩
                  case round =>
                    obtain ⟨k, hk, rfl, hg⟩ := hrel
                    by_cases hlt : k < n
                    · have ck := HAC.out k hlt wr (H14.out.trans hg)
                      obtain ⟨ad9, e9, _, c9k⟩ := (R9.out wr hg).at_ hlt
                      obtain ⟨ad9', e9', _, c9q⟩ := (R9.out wr hg).at_ hqn
                      rw [e9] at e9'
                      injection e9' with e9'
                      subst e9'
                      subst e9
                      rw [lvs_at _ _ _ _ hlt] at c9k
                      rw [lvs_at _ _ _ _ hqn, HLQ.out] at c9q
                      have hL := HLV.out k hlt
                      have hzk := HZ.out k
                      generalize lvl (kx vs) tq k = Lk at *
                      generalize fw (vs.getD k 0) = xk at *
                      generalize vs.getD k 0 = vk at *
                      have k0 : (0 : Int) ≤ (k : Int) := by omega
                      have k1 : (k : Int) < n := by omega
                      have f1 : decide ((0 : Int) < Lk) = false := decide_eq_false (by omega)
                      have f2 : decide (Lk < -2000) = false := decide_eq_false (by omega)
                      have f3 : (FloatKind.f32.format.order xk 0 == some .eq) = (Lk == (-2000 : Int)) := by
                        rw [hzk]
                        rcases hL with ⟨h1, h2⟩ | ⟨h1, h2, h3⟩
                        · rw [h1, h2]; rfl
                        · rw [Nat.compare_eq_gt.2 h1]
                          have : (Lk == (-2000 : Int)) = false := beq_eq_false_iff_ne.2 (by omega)
                          rw [this]; rfl
                      have f4 : ((n : Int) != (n : Int)) = false := by simp
                      have f5 : (Lk ≤ 0) := by omega
                      have f6 : (-2000 ≤ Lk) := by omega
                      clear hL hzk
                      go_wp2_with fail
                      go_quiet (fail)
                      go_wp2_with fail
                      go_roundw
                      case rel => exact ⟨k + 1, by omega, by go_num, hg.trans (gb_drewN _ _ _)⟩
                      case measure => simp [intOf]; omega
                    · obtain rfl : n = k := by omega
                      have HB := Lib.hid (gb_below (HG5.out.trans (H14.out.trans hg)))
                      go_wp2_with fail
                      go_ret
                      exact ⟨rfl, HB.out⟩
                · rw [if_neg (by rw [htn]; simpa using hz)] at HL2
                  have o1 : (FloatKind.f32.format.order (fw (vs.getD q 0)) 0 == some .gt) = false := by
                    rw [hzo, show vs.getD q 0 = 0 by omega]; rfl
                  clear htn hzo hz hq8
                  generalize fw (vs.getD q 0) = xq at *
                  go_wp2_with fail
                  refine HL2.out.mono ?_
                  rintro e w14 ⟨A9, c9, rfl, ho9, g14⟩
                  have cqq2 := g14.cell cqq (by simp)
                  have h14 := H13.out.trans g14
                  have H14 := Lib.hid h14
                  clear ho9 h14 HL2 cqq g14
                  go_wp2_with fail
                  clear cqq2
                  go_loopw [29] (fun i wr => i = .int .i64 0 ∧ w14.grownBy wr none) (fun i _ => (200 - intOf i).toNat)
                  case atStart => exact ⟨rfl, World.grownBy.refl _ _⟩
                  case round =>
                    obtain ⟨rfl, hg⟩ := hrel
                    have HB := Lib.hid (gb_below (HG5.out.trans (H14.out.trans hg)))
                    have n0 : (0 : Int) < n := by omega
                    go_wp2_with fail
                    go_ret
                    exact ⟨rfl, HB.out⟩
  · have hl' : 1048576 < z.length ∨ 1048576 < y.length := by omega
    go_enter Try.func4, Try.ntmps4
    go_wp2_with fail
    refine (long_yes _ _ _ _ _ _ _ hl' hm hmy).mono ?_
    rintro e w' ⟨rfl, rfl⟩
    go_wp2_with fail
    go_ret
    exact ⟨rfl, Below.refl _ _⟩

theorem walk (a0 : Option Addr) (len0 cap0 : Nat) (z0 : List Int) (a1 : Option Addr) (len1 cap1 : Nat) (z1 : List Int) (w : World) (l0 : z0.length = len0) (m0 : len0 ≤ maxLen) (w0 : ∀ x ∈ z0, (Lit.int .u8 x).wf = true) (r0 : Rd w w.heap.size a0 len0 (fun j => .int .u8 (z0.getD j 0)))
    (l1 : z1.length = len1) (m1 : len1 ≤ maxLen) (w1 : ∀ x ∈ z1, (Lit.int .u8 x).wf = true) (r1 : Rd w w.heap.size a1 len1 (fun j => .int .u8 (z1.getD j 0))) :
    Calls Try.prog 4 #[.slice a0 len0 cap0, .slice a1 len1 cap1] w fun e w' => e = .returned (.bool true) ∧ Below w.heap.size w w' := by
  subst l0 l1
  unfold maxLen at m0 m1
  exact law a0 a1 cap0 cap1 z0 z1 w (Byt.of w0) (Byt.of w1) (by omega) (by omega) r0 r1

set_option maxRecDepth 100000 in
theorem lifted (os : Os) (started : os.Started) (H : Type) (enc : TypeId × Value → H) :
    ReturnsInHanded {} Try.checked os 4 .any (Rows.fnCutsSpec.pre6 enc Try.prog Try.f4 Rows.fnCutsRow.domain false) (Rows.fnCutsSpec.post enc Try.prog Try.f4 false true false false) := by
  refine returnsInHanded_of_change (C := Try.checked) own started (by kernel_rfl) Try.func4
    (ChangeSpec.witness6 (enc := enc) (C := Try.checked) false ⟨#[], #[.slice none 0 0, .slice none 0 0], []⟩ 8 (by kernel_rfl) (by kernel_rfl) (by kernel_rfl) (by kernel_rfl)) ?_
  intro W base args ds gs before hval0 hW hcnd _
  have hval : ∀ (j : Nat) t v, Try.f4.params[j]? = some t → args[j]? = some v → Value.okWide Try.prog W .any base t v := hval0
  have hW' := hW
  obtain ⟨p, q, hA0, hV, rfl, hfz, hnd⟩ := hW
  have hA : DataW.TrodAll enc Try.prog W 0 (fun _ => true) true Try.f4.params.toList args.toList ds p := hA0
  rw [Try.params4] at hA hval
  obtain ⟨v0, vs0, d0, ds0, p0, q0, hargs, rfl, rfl, h0, r0⟩ := trodAll_cons hA
  obtain ⟨v1, vs1, d1, ds1, p1, q1, rfl, rfl, rfl, h1, r1⟩ := trodAll_cons r0
  obtain ⟨rfl, rfl, rfl⟩ := trodAll_nil r1
  obtain rfl : args = #[v0, v1] := by cases args; simp_all
  obtain ⟨rfl, rfl⟩ := trodVars_none hV
  obtain ⟨a0, len0, cap0, rfl⟩ := okWide_slice Try.underlying22 (hval 0 22 v0 rfl rfl)
  have k0 := h0
  have lt0 : ∀ x ∈ p0, x.block < W.heap.size := by obtain ⟨m, hm⟩ := k0; exact DataW.trod_lt m _ _ _ hm
  obtain ⟨z0, l0, m0, w0, r0'⟩ := opened_ints Try.underlying22 Try.underlying5 (by kernel_rfl) k0
  obtain ⟨a1, len1, cap1, rfl⟩ := okWide_slice Try.underlying22 (hval 1 22 v1 rfl rfl)
  have k1 := h1
  have lt1 : ∀ x ∈ p1, x.block < W.heap.size := by obtain ⟨m, hm⟩ := k1; exact DataW.trod_lt m _ _ _ hm
  obtain ⟨z1, l1, m1, w1, r1'⟩ := opened_ints Try.underlying22 Try.underlying5 (by kernel_rfl) k1
  clear hA0 hval0
  refine (walk a0 len0 cap0 z0 a1 len1 cap1 z1 W l0 m0 w0 r0' l1 m1 w1 r1').mono fun e W' ⟨he, bel⟩ => ?_
  subst he
  exact ⟨_, rfl, _, _, _, [], _, [], hW', trodAll_mk1 (shut_bool Try.underlying4 _), (trodAll_cons_mk (Below.trod laidOut (by kernel_rfl) (of_decide_eq_true (by kernel_rfl)) k0 bel lt0) (trodAll_cons_mk (Below.trod laidOut (by kernel_rfl) (of_decide_eq_true (by kernel_rfl)) k1 bel lt1) trodAll_mk0)), rfl, bel.frame _, fun h => by cases h⟩

set_option maxHeartbeats 8000000 in
theorem over : Rows.fnCutsRow.holds Try.pinned (OpenSpec.ofChange Rows.fnCutsSpec) :=
  OpenClaim.holds_of_wide 4 Try.f4 rfl rfl rfl rfl rfl rfl rfl ⟨rfl, rfl, rfl, rfl, rfl⟩ rfl rfl rfl rfl rfl (by as_aux_lemma => kernel_rfl) Try.func4 (by as_aux_lemma => kernel_rfl)
    (of_decide_eq_true (by as_aux_lemma => kernel_rfl)) (by unfold Func.isWrapper; first | (rw [if_pos (by decide +kernel)]; kernel_rfl) | (rw [if_neg (by decide +kernel)]; exact ⟨rfl, rfl⟩))
    (fun os started H enc _ => lifted os started H enc)

theorem proved : Rows.FnCutsSaid := over
#print axioms proved
end Go.Proofs.Ytpeclgfopincbaa.fnCuts
