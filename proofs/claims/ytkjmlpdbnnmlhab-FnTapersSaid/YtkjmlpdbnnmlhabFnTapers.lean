/- Tapers are even from both ends, nearly, from 0 to 1, and steered weights receive from their direction nearly the sum of their taper: the law answers true at every input. No condition. -/
import Derived.Test.YtkjmlpdbnnmlhabRows
import Derived.Test.YtkjmlpdbnnmlhabSlc
import Derived.Test.YtkjmlpdbnnmlhabSmall
import Derived.Test.YtkjmlpdbnnmlhabListI
import Derived.Test.YtkjmlpdbnnmlhabMarks
import Derived.Test.YtkjmlpdbnnmlhabOpens
import Derived.Test.YtkjmlpdbnnmlhabPlaces
import Derived.Test.YtkjmlpdbnnmlhabPlaceSet
import Derived.Test.YtkjmlpdbnnmlhabListP
import Derived.Test.YtkjmlpdbnnmlhabSteps
import Derived.Test.YtkjmlpdbnnmlhabListC
import Derived.Test.YtkjmlpdbnnmlhabFloats
import Derived.Test.YtkjmlpdbnnmlhabRound
import Derived.Test.YtkjmlpdbnnmlhabValues
import Derived.Test.YtkjmlpdbnnmlhabConv
import Derived.Test.YtkjmlpdbnnmlhabFWalk
import Derived.Test.YtkjmlpdbnnmlhabFinWalk
import Derived.Test.YtkjmlpdbnnmlhabRoot
import Derived.Test.YtkjmlpdbnnmlhabFloat2
import Derived.Test.YtkjmlpdbnnmlhabFloat3
import Derived.Test.YtkjmlpdbnnmlhabPhase
import Derived.Test.YtkjmlpdbnnmlhabSine
import Derived.Test.YtkjmlpdbnnmlhabPhasor
import Derived.Test.YtkjmlpdbnnmlhabSteerNum
import Derived.Test.YtkjmlpdbnnmlhabSteering
import Derived.Test.YtkjmlpdbnnmlhabSteering2
import Derived.Test.YtkjmlpdbnnmlhabRingNum
import Derived.Test.YtkjmlpdbnnmlhabTaperNum
import Derived.Test.YtkjmlpdbnnmlhabTapTab
import Derived.Test.YtkjmlpdbnnmlhabListF
import Derived.Test.YtkjmlpdbnnmlhabHeldF
import Derived.Test.YtkjmlpdbnnmlhabTaperAll
import Derived.Test.YtkjmlpdbnnmlhabSteerAll
import Derived.Test.YtkjmlpdbnnmlhabSineIn
import Derived.Test.YtkjmlpdbnnmlhabPolyNum
import Derived.Test.YtkjmlpdbnnmlhabPolyW
import Derived.Test.YtkjmlpdbnnmlhabPoly1
import Derived.Test.YtkjmlpdbnnmlhabPoly2
import Derived.Test.YtkjmlpdbnnmlhabGPoly
import Derived.Test.YtkjmlpdbnnmlhabGNum
import Derived.Test.YtkjmlpdbnnmlhabRq
import Derived.Test.YtkjmlpdbnnmlhabPowW
import Derived.Test.YtkjmlpdbnnmlhabTwinNum
import Derived.Test.YtkjmlpdbnnmlhabPhDef
import Derived.Test.YtkjmlpdbnnmlhabPhTabA
import Derived.Test.YtkjmlpdbnnmlhabPhTabB
import Derived.Test.YtkjmlpdbnnmlhabPhTabC
import Derived.Test.YtkjmlpdbnnmlhabPhTabD
import Derived.Test.YtkjmlpdbnnmlhabPhAll
import Derived.Test.YtkjmlpdbnnmlhabPhMath
import Derived.Test.YtkjmlpdbnnmlhabDotC
import Derived.Test.YtkjmlpdbnnmlhabGapAll
import Derived.Test.YtkjmlpdbnnmlhabTapR
import Derived.Test.YtkjmlpdbnnmlhabTapFact
import Derived.Test.YtkjmlpdbnnmlhabDrawAll
import Derived.WalkKit
import Derived.ProofKit
import Derived.OpenShut
import Derived.ShutString
import Derived.ChangeOld
import Derived.Below
import Derived.Lib.Hide
import Derived.BigQuiet
import Derived.Deep.QuietTactic
import Derived.WalkLawsBesides
import Derived.Outline
import Derived.Deep.LoopGhost
import Derived.Laws.ComplexArith
import Derived.Laws.Cover2
namespace Go.Proofs.Ytkjmlpdbnnmlhab.fnTapers
open Go.ChangeShapes Go.WideShapes Go.ChangeAt Go.RowKit
open Go.ChangeMaps (open_string shut_string)
set_option linter.unusedVariables false
theorem own : ownKnob Try.prog.godebug = none := by kernel_rfl
theorem laidOut : laidOutB Try.prog = true := by kernel_rfl
open Go Ieee Go.RowKit
open Go.Proofs.Ytkjmlpdbnnmlhab.slc Go.Proofs.Ytkjmlpdbnnmlhab.small Go.Proofs.Ytkjmlpdbnnmlhab.opens Go.Proofs.Ytkjmlpdbnnmlhab.places Go.Proofs.Ytkjmlpdbnnmlhab.placeSet Go.Proofs.Ytkjmlpdbnnmlhab.listP Go.Proofs.Ytkjmlpdbnnmlhab.steps Go.Proofs.Ytkjmlpdbnnmlhab.listC Go.Proofs.Ytkjmlpdbnnmlhab.values Go.Proofs.Ytkjmlpdbnnmlhab.conv Go.Proofs.Ytkjmlpdbnnmlhab.float2 Go.Proofs.Ytkjmlpdbnnmlhab.float3 Go.Proofs.Ytkjmlpdbnnmlhab.phase Go.Proofs.Ytkjmlpdbnnmlhab.sine Go.Proofs.Ytkjmlpdbnnmlhab.phasor Go.Proofs.Ytkjmlpdbnnmlhab.steerNum Go.Proofs.Ytkjmlpdbnnmlhab.steering Go.Proofs.Ytkjmlpdbnnmlhab.steering2 Go.Proofs.Ytkjmlpdbnnmlhab.taperNum Go.Proofs.Ytkjmlpdbnnmlhab.listF Go.Proofs.Ytkjmlpdbnnmlhab.steerW Go.Proofs.Ytkjmlpdbnnmlhab.steerW2 Go.Proofs.Ytkjmlpdbnnmlhab.sineIn Go.Proofs.Ytkjmlpdbnnmlhab.polyNum Go.Proofs.Ytkjmlpdbnnmlhab.polyW Go.Proofs.Ytkjmlpdbnnmlhab.poly2 Go.Proofs.Ytkjmlpdbnnmlhab.gPoly Go.Proofs.Ytkjmlpdbnnmlhab.gNum Go.Proofs.Ytkjmlpdbnnmlhab.rq Go.Proofs.Ytkjmlpdbnnmlhab.powW Go.Proofs.Ytkjmlpdbnnmlhab.steerR Go.Proofs.Ytkjmlpdbnnmlhab.dotC Go.Proofs.Ytkjmlpdbnnmlhab.gap Go.Proofs.Ytkjmlpdbnnmlhab.gapR Go.Proofs.Ytkjmlpdbnnmlhab.tapR Go.Proofs.Ytkjmlpdbnnmlhab.tapFact Go.Proofs.Ytkjmlpdbnnmlhab.r8 Go.Proofs.Ytkjmlpdbnnmlhab.drawOk Go.Proofs.Ytkjmlpdbnnmlhab.drawR8

theorem cvi6464 (w : World) (n : Int) : (convert 2 39 (.int .i64 n)).run Try.prog w = .ok (.float .f64 (floatOfInt .f64 n)) w :=
  run_convert_int_float w _ _ .i64 .f64 n (by rw [Try.underlying2]; rfl) Try.underlying39
theorem dir45 {u v : Int} (h : -45 ≤ u ∧ u ≤ 45) (h' : -45 ≤ v ∧ v ≤ 45) : dirB u v = true := by
  have a : u.natAbs * u.natAbs ≤ 45 * 45 := Nat.mul_le_mul (by omega) (by omega)
  have b : v.natAbs * v.natAbs ≤ 45 * 45 := Nat.mul_le_mul (by omega) (by omega)
  have e1 : u * u = ((u.natAbs * u.natAbs : Nat) : Int) := by simp
  have e2 : v * v = ((v.natAbs * v.natAbs : Nat) : Int) := by simp
  unfold dirB
  refine decide_eq_true ?_
  omega
theorem st_R {ps : List (Int × Int)} {u v : Int} (hv : vp ps = true) (hd : dirB u v = true) : steR ps u v = (stl ps u v, true) := by
  unfold steR; rw [if_pos ⟨hv, hd⟩]
theorem stl_get (ps : List (Int × Int)) (u v : Int) (k : Nat) (hk : k < ps.length) : (stl ps u v).getD k (0, 0) = phz (ps[k].1 * u + ps[k].2 * v) := by
  unfold stl
  simp [List.getD, hk]
/-- The received sum. -/
theorem recv {ps : List (Int × Int)} {u v : Int} {x : Nat → Nat} {l : List (Nat × Nat)} (hv : vp ps = true) (hd : dirB u v = true) (hl : l.length = ps.length) (hs : Scl (stl ps u v) x l) (hx : ∀ k, k < ps.length → TF (x k)) :
    Cb (dsum (l.map cj) (stl ps u v) ps.length) 5 ∧ nr (r32 (dsum (l.map cj) (stl ps u v) ps.length).1) (ssum (fun j => r32 (x j)) ps.length) ((ps.length : Rat) * (1 / 16384)) ∧ nr (r32 (dsum (l.map cj) (stl ps u v) ps.length).2) 0 ((ps.length : Rat) * (1 / 16384)) ∧ DotOk (l.map cj) (stl ps u v) ps.length := by
  refine dot_near (T := fun j => r32 (x j)) (n := ps.length) (vp_yes hv).2.1 ?_ ?_ ps.length (Nat.le_refl _)
  · intro k hk
    have := hx k hk
    have h1 := this.lo
    have h2 := this.hi
    constructor <;> grind
  · intro k hk
    have ht := hx k hk
    have hsk := hs k (by omega)
    rw [stl_get _ _ _ _ hk] at hsk
    rw [map_at cj l k (by omega), stl_get _ _ _ _ hk]
    have hok := steering.ok_at hv k hk
    have hb := (steps_bd hok hd).1
    exact term_near hb ht.bs ht.lo (by have := ht.hi; grind) hsk.1 hsk.2
theorem run_geq {x y : Nat} (h : (FloatKind.f32.format.order x y == some .gt || FloatKind.f32.format.order x y == some .eq) = true) (w : World) (t : TypeId) : (binOp .geq t (.float .f32 x) (.float .f32 y)).run Try.prog w = .ok (.bool true) w := by
  rw [binOp_float_cmp_geq, h]
  rfl
attribute [local go_sem] cvi6464
set_option maxHeartbeats 8000000 in
set_option maxRecDepth 100000 in
theorem law (A A' : Option Addr) (c d : Nat) (z y : List Int) (w : World) (hz : Byt z) (hzy : Byt y) (hm : z.length ≤ 9223372036854775807) (hy : y.length ≤ 9223372036854775807) (hr : Rd w w.heap.size A z.length (bt z)) (hry : Rd w w.heap.size A' y.length (bt y)) :
    Calls Try.prog 8 #[.slice A z.length c, .slice A' y.length d] w fun e w' => e = .returned (.bool true) ∧ Below w.heap.size w w' := by
  by_cases hl : z.length ≤ 48 ∧ y.length ≤ 48
  · have H4 := fun w hr => r8_at A' d w.heap.size y 40 4 w (by omega) (by decide) (by decide) hzy hr
    rw [show ((40 : Nat) : Int) = 40 from rfl] at H4
    obtain ⟨b1, b2⟩ := r8_bd hzy 40 4 (by decide)
    obtain ⟨kd, hkd, hk4⟩ : ∃ s : Nat, r8 y 40 4 = (s : Int) ∧ s < 4 := ⟨(r8 y 40 4).toNat, by omega, by omega⟩
    rw [hkd] at H4
    have hps := places_sm A c z w (by omega) hz hr
    have HPS := Lib.hid hps
    clear hps b1 b2 hkd
    go_enter Try.func8, Try.ntmps8
    go_wp2_with fail
    refine (long_no _ _ _ _ _ _ _ hl.1 hl.2).mono ?_
    rintro e w' ⟨rfl, rfl⟩
    go_wp2_with fail
    refine HPS.out.mono ?_
    rintro e w1 ⟨ps, A1, c1, ⟨hv, hs⟩, rfl, ho1, g1⟩
    have R1 := Rd.of_lst ho1 rfl
    have hdr := direction_is A' d y w1 (by omega) hzy ((hry.kept0 g1 (Nat.le_refl _)).mono g1.size)
    have HDR := Lib.hid hdr
    have hl16 := vp_yes hv
    have hn1 := hl16.1
    have hn2 := hl16.2.1
    clear hdr ho1 HPS hl16 hs
    go_wp2_with fail
    refine HDR.out.mono ?_
    rintro e w2 ⟨u, v, hu, hv', rfl, g2⟩
    have hd := dir45 hu hv'
    have g02 := g1.trans g2
    have R2 := R1.kept0 g2 (Nat.le_refl _)
    have hb1 := g2.size
    have ga := World.grownBy_alloc w2 (.cells #[.int .i64 u, .int .i64 v] 41) none
    have da := Dx.new w2 u v
    have R3 := (R2.kept0 ga hb1).mono (Nat.le_trans hb1 ga.size)
    have g03 := g02.trans ga
    have y3 := (hry.kept0 g03 (Nat.le_refl _)).mono g03.size
    obtain ⟨w3, hw3⟩ : ∃ w3, w2.alloc (.cells #[.int .i64 u, .int .i64 v] 41) = w3 := ⟨_, rfl⟩
    rw [hw3] at da R3 g03 y3
    generalize hB : w2.heap.size = hb at *
    have HW3 := Lib.hid hw3
    have HS3 := Lib.hid (And.intro da (And.intro R3 (And.intro g03 y3)))
    have HN := Lib.hid (And.intro hv hd)
    clear HDR R1 R2 g02 g1 g2 hw3 ga da R3 g03 y3 hv hd hb1
    go_wp2_with fail
    obtain ⟨da, R3, g03, y3⟩ := HS3.out
    rw [HW3.out]
    refine (H4 _ y3).mono ?_
    rintro e w' ⟨rfl, rfl⟩
    have htp := tap_impl kd ps.length hk4 hn1 hn2 w3
    have hTF : ∀ k, k < ps.length → TF (tpn (kd : Int) ps.length k) := fun k hk => tf kd ps.length k hk4 (by omega) hk
    have hCM : ∀ k, k < ps.length → _ := fun k hk => cmp kd ps.length k hk4 (by omega) hk
    have hGR := great_r kd ps.length hk4 (by omega) hn1
    generalize hX : tpn (kd : Int) ps.length = X at *
    have HTF := Lib.hid hTF
    have HCM := Lib.hid hCM
    have HGR := Lib.hid hGR
    have HTP := Lib.hid htp
    have HD := Lib.hid da
    have HR3 := Lib.hid R3
    have HG3 := Lib.hid g03
    clear HW3 HS3 H4 htp hTF hCM hGR y3 R3 g03 da hry hr
    go_wp2_with fail
    refine HTP.out.mono ?_
    rintro e w4 ⟨A4, c4, rfl, ho4, g4⟩
    have R4 := Rd.of_lst ho4 (Nat.mul_one _).symm
    have d4 := HD.out.keep g4 (by simp)
    obtain ⟨cx, cy, _, _⟩ := d4.facts
    have hsw := sw_impl A1 A4 c1 c4 w4.heap.size ps u v X w4 (by omega) ((HR3.out.kept0 g4 (Nat.le_refl _)).mono g4.size) R4 (Nat.le_refl _) HN.out.1 HN.out.2
    have HSW := Lib.hid hsw
    have HD4 := Lib.hid d4
    have HG4 := Lib.hid g4
    have HR4 := Lib.hid R4
    clear hsw d4 g4 R4 ho4 HTP HD
    go_wp2_with fail
    refine HSW.out.mono ?_
    rintro e w5 ⟨A5, c5, l, hll, hscl, rfl, ho5, g5⟩
    have R5 := Rd.of_lst ho5 (Nat.mul_one _).symm
    have d5 := HD4.out.keep g5 (by simp)
    obtain ⟨cx, cy, _, _⟩ := d5.facts
    have hst := impl_c ps u v
    rw [st_R HN.out.1 HN.out.2] at hst
    have h1 := hst A1 c1 w3.heap.size w5 (by omega) (HR3.out.kept0 (HG4.out.trans g5) (Nat.le_refl _)) (HG4.out.trans g5).size
    rw [stl_len] at h1
    have H1 := Lib.hid h1
    have HG5 := Lib.hid g5
    have HR5 := Lib.hid R5
    have HRC := Lib.hid (recv HN.out.1 HN.out.2 hll hscl HTF.out)
    have HLL := Lib.hid hll
    clear hst h1 d5 g5 R5 ho5 HSW HD4 hscl hll
    go_wp2_with fail
    refine H1.out.mono ?_
    rintro e w6 ⟨A6, c6, rfl, ho6, g6⟩
    have R6 := Rd.of_lst ho6 (Nat.mul_one _).symm
    have hdc := dotc_impl A5 A6 c5 c6 w6.heap.size ps.length l (stl ps u v) w6 HLL.out (stl_len _ _ _) hn2 HRC.out.2.2.2 ((HR5.out.kept0 g6 (Nat.le_refl _)).mono g6.size) (by first | exact R6 | (have h := R6; rw [stl_len] at h; exact h)) (Nat.le_refl _)
    have HDC := Lib.hid hdc
    have HG6 := Lib.hid g6
    clear hdc g6 R6 ho6 H1 cx cy
    go_wp2_with fail
    refine HDC.out.mono ?_
    rintro e w7 ⟨rfl, g7⟩
    have R47 := HR4.out.kept0 ((HG5.out.trans HG6.out).trans g7) (Nat.le_refl _)
    have hs7 := ((HG5.out.trans HG6.out).trans g7).size
    have g07 := HG3.out.trans (((HG4.out.trans HG5.out).trans HG6.out).trans g7)
    have HR7 := Lib.hid (And.intro (R47.mono hs7) g07)
    clear R47 hs7 g07 g7 HDC
    generalize hD : dsum (l.map cj) (stl ps u v) ps.length = D at *
    go_wp2_with fail
    go_loopw [17, 18, 19] (fun s mo i wr => ∃ (k M : Nat), k ≤ ps.length ∧ i = .int .i64 k ∧ s = .float .f64 (s64 X k) ∧ mo = .float .f64 M ∧ (FinW double M ∧ ∀ j, j < k → r64 (wd (X j)) ≤ r64 M) ∧ w7.grownBy wr none) (fun _ _ i _ => ps.length - (intOf i).toNat)
    case atStart => exact ⟨0, 0, Nat.zero_le _, rfl, rfl, rfl, ⟨F_zero, fun j h => absurd h (by omega)⟩, World.grownBy.refl _ _⟩
    case round =>
      obtain ⟨k, M, hk, rfl, rfl, rfl, hM, hg⟩ := hrel
      by_cases hlt : k < ps.length
      · obtain ⟨r, hr⟩ : ∃ r, ps.length - 1 - k = r := ⟨_, rfl⟩
        obtain ⟨q1, q2, q3, q4, q5, q6⟩ := HCM.out k hlt
        rw [hr] at q6
        obtain ⟨ad, rfl, _, hc1⟩ := (HR7.out.1.kept0 hg (Nat.le_refl _)).at_ (k := k) hlt
        obtain ⟨ad', e', _, hc2⟩ := (HR7.out.1.kept0 hg (Nat.le_refl _)).at_ (k := r) (by omega)
        obtain rfl : ad = ad' := Option.some.inj e'
        unfold fl at hc1 hc2
        obtain ⟨_, _, p3, _⟩ := HCM.out r (by omega)
        obtain ⟨_, p2, _⟩ := HCM.out r (by omega)
        have hsum := (s64_ok hn2 HTF.out (k + 1) (by omega)).2.2 k (by omega)
        have hadd := fun w : World => run_ok (P := Try.prog) hsum rfl (w := w) (t := 39)
        obtain ⟨o1, o2, o3, o4⟩ := mx_ge hM.1 q3.1
        have hmax := fun w : World => max_f w _ _ _ o1
        have hM' : FinW double (mxw (compare (V double M) (V double (wd (X k)))) M (wd (X k))) ∧ ∀ j, j < k + 1 → r64 (wd (X j)) ≤ r64 (mxw (compare (V double M) (V double (wd (X k)))) M (wd (X k))) := ⟨o2, fun j hj => by
          by_cases hjk : j < k
          · exact Rat.le_trans (hM.2 j hjk) o3
          · obtain rfl : j = k := by omega
            exact o4⟩
        have HM := Lib.hid hM'
        have Q2 := Lib.hid (fun (w : World) (q : Nat) => Calls.quiet_of_same ((gap_any q3 p3 (by omega) (w.drewN q)).mono (by rintro e w' ⟨rfl, rfl⟩; exact ⟨rfl, rfl⟩)))
        have c1' := fun w : World => cvw q2 w
        have c2' := fun w : World => cvw p2 w
        have hoo : FloatKind.f32.format.order (X k) 0 = some .gt ∨ FloatKind.f32.format.order (X k) 0 = some .eq := by simpa using q1
        clear hM' hM o1 o2 o3 o4 hsum q1 q2 q3 q4 p2 p3 e'
        generalize mxw (compare (V double M) (V double (wd (X k)))) M (wd (X k)) = M' at *
        obtain ⟨S', hS'⟩ : ∃ s, s64 X (k + 1) = s := ⟨_, rfl⟩
        rw [hS'] at hadd
        have HS' := Lib.hid hS'
        clear hS'
        generalize s64 X k = S at *
        generalize gv (wd (X k)) (wd (X r)) = G at *
        generalize hwk : wd (X k) = Wk at *
        generalize wd (X r) = Wr at *
        have HWK := Lib.hid hwk
        clear hwk
        have i1 : ((ps.length : Nat) : Int) - 1 - (k : Int) = (r : Int) := by omega
        have i2 : IntKind.i64.wrap (((ps.length : Nat) : Int) - 1) = ((ps.length : Nat) : Int) - 1 := by rw [IntKind.wrap_i64]; omega
        have i3 : IntKind.i64.wrap (((ps.length : Nat) : Int) - 1 - (k : Int)) = (r : Int) := by rw [IntKind.wrap_i64]; omega
        have i4 : IntKind.i64.wrap (r : Int) = (r : Int) := by rw [IntKind.wrap_i64]; omega
        have k0 : (0 : Int) ≤ k := by omega
        have k1 : (k : Int) < ps.length := by omega
        have r0 : (0 : Int) ≤ r := by omega
        have r1 : (r : Int) < ps.length := by omega
        rcases hoo with hoo | hoo
        all_goals
          go_wp2_with fail
          go_quiet (first | (go_at_call 73; exact Q2.out _ _))
          have hgd := hg.trans (gb_drewN wr nq none)
          have hc3 : (wr.drewN nq).cell? (ad.add k) = some (.float .f32 (X k)) := hc1
          clear hc2 hc1 hg Q2
          generalize wr.drewN nq = wq at *
          go_wp2_with fail
          go_roundw
          case rel => exact ⟨k + 1, M', by omega, by go_num, by rw [HS'.out], rfl, HM.out, hgd⟩
          case measure => simp [intOf]; omega
      · obtain rfl : k = ps.length := by omega
        obtain ⟨bS, nS, _⟩ := s64_ok hn2 HTF.out ps.length (Nat.le_refl _)
        obtain ⟨cD, nD1, nD2, _⟩ := HRC.out
        obtain ⟨kk, hkk, hgr⟩ := HGR.out
        have hmm := hM.2 kk hkk
        have hwk := (wd_r (HTF.out kk hkk).bs.1).2
        have hgt := gt_yes hM.1 c_six.1 (by have := c_six.2; rw [hwk] at hmm; grind)
        have hz : r64 0 = 0 := by unfold r64; rw [V_zero]; grind
        have hn0 := nat_le (Nat.zero_le ps.length)
        rw [show ((0 : Nat) : Rat) = 0 from rfl] at hn0
        have b0 : Bd 0 (D64 + 5) := bd_of_r F_zero (by rw [hz, show two 5 = 32 from rfl]; unfold nr; constructor <;> grind)
        obtain ⟨e1, p1, m1, l1⟩ := last_cmp hn2 cD.1 nD1 bS nS
        obtain ⟨e2, p2, _, l2⟩ := last_cmp (T := 0) (S := 0) hn2 cD.2 nD2 b0 (by rw [hz]; unfold nr; constructor <;> grind)
        rw [show ((ps.length + 1 : Nat) : Int) = (ps.length : Int) + 1 by omega] at m1 l1 l2
        have G1 := Lib.hid (fun w => gap_any p1 bS (by omega) w)
        have G2 := Lib.hid (fun w => gap_any p2 b0 (by omega) w)
        have c1' := fun w : World => cvw e1 w
        have c2' := fun w : World => cvw e2 w
        have hmul := fun w : World => run_ok (P := Try.prog) m1 rfl (w := w) (t := 39)
        have HE := Lib.hid (gb_below (HR7.out.2.trans hg))
        clear bS nS cD nD1 nD2 hgr hmm hwk hM e1 e2 p1 p2 m1 b0 hn0 hz hg
        generalize gv (wd D.1) (s64 X ps.length) = V1 at *
        generalize gv (wd D.2) 0 = V2 at *
        generalize bv .mul 4562254508917369340 (floatOfInt .f64 ((ps.length : Int) + 1)) = MU at *
        generalize s64 X ps.length = SS at *
        go_wp2_with fail
        refine (G1.out _).mono ?_
        rintro e w' ⟨rfl, rfl⟩
        go_wp2_with fail
        refine (G2.out _).mono ?_
        rintro e w' ⟨rfl, rfl⟩
        go_wp2_with fail
        go_ret
        exact ⟨rfl, HE.out⟩
  · have hl' : 48 < z.length ∨ 48 < y.length := by omega
    go_enter Try.func8, Try.ntmps8
    go_wp2_with fail
    refine (long_yes _ _ _ _ _ _ _ hl' hm hy).mono ?_
    rintro e w' ⟨rfl, rfl⟩
    go_wp2_with fail
    go_ret
    exact ⟨rfl, Below.refl _ _⟩

theorem walk (a0 : Option Addr) (len0 cap0 : Nat) (z0 : List Int) (a1 : Option Addr) (len1 cap1 : Nat) (z1 : List Int) (w : World) (l0 : z0.length = len0) (m0 : len0 ≤ maxLen) (w0 : ∀ x ∈ z0, (Lit.int .u8 x).wf = true) (r0 : Rd w w.heap.size a0 len0 (fun j => .int .u8 (z0.getD j 0)))
    (l1 : z1.length = len1) (m1 : len1 ≤ maxLen) (w1 : ∀ x ∈ z1, (Lit.int .u8 x).wf = true) (r1 : Rd w w.heap.size a1 len1 (fun j => .int .u8 (z1.getD j 0))) :
    Calls Try.prog 8 #[.slice a0 len0 cap0, .slice a1 len1 cap1] w fun e w' => e = .returned (.bool true) ∧ Below w.heap.size w w' := by
  subst l0 l1
  unfold maxLen at m0 m1
  exact law a0 a1 cap0 cap1 z0 z1 w (Byt.of w0) (Byt.of w1) (by omega) (by omega) r0 r1

set_option maxRecDepth 100000 in
theorem lifted (os : Os) (started : os.Started) (H : Type) (enc : TypeId × Value → H) :
    ReturnsInHanded {} Try.checked os 8 .any (Rows.fnTapersSpec.pre6 enc Try.prog Try.f8 Rows.fnTapersRow.domain false) (Rows.fnTapersSpec.post enc Try.prog Try.f8 false true false false) := by
  refine returnsInHanded_of_change (C := Try.checked) own started (by kernel_rfl) Try.func8
    (ChangeSpec.witness6 (enc := enc) (C := Try.checked) false ⟨#[], #[.slice none 0 0, .slice none 0 0], []⟩ 8 (by kernel_rfl) (by kernel_rfl) (by kernel_rfl) (by kernel_rfl)) ?_
  intro W base args ds gs before hval0 hW hcnd _
  have hval : ∀ (j : Nat) t v, Try.f8.params[j]? = some t → args[j]? = some v → Value.okWide Try.prog W .any base t v := hval0
  have hW' := hW
  obtain ⟨p, q, hA0, hV, rfl, hfz, hnd⟩ := hW
  have hA : DataW.TrodAll enc Try.prog W 0 (fun _ => true) true Try.f8.params.toList args.toList ds p := hA0
  rw [Try.params8] at hA hval
  obtain ⟨v0, vs0, d0, ds0, p0, q0, hargs, rfl, rfl, h0, r0⟩ := trodAll_cons hA
  obtain ⟨v1, vs1, d1, ds1, p1, q1, rfl, rfl, rfl, h1, r1⟩ := trodAll_cons r0
  obtain ⟨rfl, rfl, rfl⟩ := trodAll_nil r1
  obtain rfl : args = #[v0, v1] := by cases args; simp_all
  obtain ⟨rfl, rfl⟩ := trodVars_none hV
  obtain ⟨a0, len0, cap0, rfl⟩ := okWide_slice Try.underlying22 (hval 0 22 v0 rfl rfl)
  have k0 := h0
  have lt0 : ∀ x ∈ p0, x.block < W.heap.size := by obtain ⟨m, hm⟩ := k0; exact DataW.trod_lt m _ _ _ hm
  obtain ⟨z0, l0, m0, w0, r0'⟩ := opened_ints Try.underlying22 Try.underlying5 (by kernel_rfl) k0
  obtain ⟨a1, len1, cap1, rfl⟩ := okWide_slice Try.underlying22 (hval 1 22 v1 rfl rfl)
  have k1 := h1
  have lt1 : ∀ x ∈ p1, x.block < W.heap.size := by obtain ⟨m, hm⟩ := k1; exact DataW.trod_lt m _ _ _ hm
  obtain ⟨z1, l1, m1, w1, r1'⟩ := opened_ints Try.underlying22 Try.underlying5 (by kernel_rfl) k1
  clear hA0 hval0
  refine (walk a0 len0 cap0 z0 a1 len1 cap1 z1 W l0 m0 w0 r0' l1 m1 w1 r1').mono fun e W' ⟨he, bel⟩ => ?_
  subst he
  exact ⟨_, rfl, _, _, _, [], _, [], hW', trodAll_mk1 (shut_bool Try.underlying4 _), (trodAll_cons_mk (Below.trod laidOut (by kernel_rfl) (of_decide_eq_true (by kernel_rfl)) k0 bel lt0) (trodAll_cons_mk (Below.trod laidOut (by kernel_rfl) (of_decide_eq_true (by kernel_rfl)) k1 bel lt1) trodAll_mk0)), rfl, bel.frame _, fun h => by cases h⟩

set_option maxHeartbeats 8000000 in
theorem over : Rows.fnTapersRow.holds Try.pinned (OpenSpec.ofChange Rows.fnTapersSpec) :=
  OpenClaim.holds_of_wide 8 Try.f8 rfl rfl rfl rfl rfl rfl rfl ⟨rfl, rfl, rfl, rfl, rfl⟩ rfl rfl rfl rfl rfl (by as_aux_lemma => kernel_rfl) Try.func8 (by as_aux_lemma => kernel_rfl)
    (of_decide_eq_true (by as_aux_lemma => kernel_rfl)) (by unfold Func.isWrapper; first | (rw [if_pos (by decide +kernel)]; kernel_rfl) | (rw [if_neg (by decide +kernel)]; exact ⟨rfl, rfl⟩))
    (fun os started H enc _ => lifted os started H enc)

theorem proved : Rows.FnTapersSaid := over
#print axioms proved
end Go.Proofs.Ytkjmlpdbnnmlhab.fnTapers
