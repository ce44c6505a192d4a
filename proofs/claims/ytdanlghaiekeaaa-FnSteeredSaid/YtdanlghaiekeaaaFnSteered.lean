/- Phases of a wave have nearly the length 1, are exact for quarters of turns, and those of shifted places are nearly the product with the phase of the shift: the law answers true at every input. No condition. -/
import Derived.Test.YtdanlghaiekeaaaRows
import Derived.Test.YtdanlghaiekeaaaSlc
import Derived.Test.YtdanlghaiekeaaaSmall
import Derived.Test.YtdanlghaiekeaaaOpens
import Derived.Test.YtdanlghaiekeaaaPlaces
import Derived.Test.YtdanlghaiekeaaaPlaceSet
import Derived.Test.YtdanlghaiekeaaaListP
import Derived.Test.YtdanlghaiekeaaaGrid
import Derived.Test.YtdanlghaiekeaaaShift
import Derived.Test.YtdanlghaiekeaaaSteps
import Derived.Test.YtdanlghaiekeaaaListC
import Derived.Test.YtdanlghaiekeaaaFloats
import Derived.Test.YtdanlghaiekeaaaRound
import Derived.Test.YtdanlghaiekeaaaValues
import Derived.Test.YtdanlghaiekeaaaConv
import Derived.Test.YtdanlghaiekeaaaFWalk
import Derived.Test.YtdanlghaiekeaaaFinWalk
import Derived.Test.YtdanlghaiekeaaaRoot
import Derived.Test.YtdanlghaiekeaaaFloat2
import Derived.Test.YtdanlghaiekeaaaFloat3
import Derived.Test.YtdanlghaiekeaaaPhase
import Derived.Test.YtdanlghaiekeaaaSine
import Derived.Test.YtdanlghaiekeaaaPhasor
import Derived.Test.YtdanlghaiekeaaaSteerNum
import Derived.Test.YtdanlghaiekeaaaSteering
import Derived.Test.YtdanlghaiekeaaaSteering2
import Derived.Test.YtdanlghaiekeaaaLineI
import Derived.Test.YtdanlghaiekeaaaSineIn
import Derived.Test.YtdanlghaiekeaaaPolyNum
import Derived.Test.YtdanlghaiekeaaaPolyW
import Derived.Test.YtdanlghaiekeaaaPoly1
import Derived.Test.YtdanlghaiekeaaaGPoly
import Derived.Test.YtdanlghaiekeaaaGNum
import Derived.Test.YtdanlghaiekeaaaRq
import Derived.Test.YtdanlghaiekeaaaPowW
import Derived.Test.YtdanlghaiekeaaaTwinNum
import Derived.Test.YtdanlghaiekeaaaPhDef
import Derived.Test.YtdanlghaiekeaaaPhTabA
import Derived.Test.YtdanlghaiekeaaaPhTabB
import Derived.Test.YtdanlghaiekeaaaPhTabC
import Derived.Test.YtdanlghaiekeaaaPhTabD
import Derived.Test.YtdanlghaiekeaaaPhVal
import Derived.Test.YtdanlghaiekeaaaPhMath
import Derived.Test.YtdanlghaiekeaaaPhPhi
import Derived.Test.YtdanlghaiekeaaaSteerR
import Derived.Test.YtdanlghaiekeaaaGap
import Derived.Test.YtdanlghaiekeaaaGapR
import Derived.Test.YtdanlghaiekeaaaR8
import Derived.Test.YtdanlghaiekeaaaSrc
import Derived.Test.YtdanlghaiekeaaaSrcW
import Derived.Test.YtdanlghaiekeaaaDrawOk
import Derived.Test.YtdanlghaiekeaaaDrawR8
import Derived.WalkKit
import Derived.ProofKit
import Derived.OpenShut
import Derived.ShutString
import Derived.ChangeOld
import Derived.Below
import Derived.Lib.Hide
import Derived.BigQuiet
import Derived.Deep.QuietTactic
import Derived.WalkLawsBesides
import Derived.Outline
import Derived.Deep.LoopGhost
import Derived.Deep.QuietTactic
import Derived.BigQuiet
import Derived.Laws.ComplexArith
namespace Go.Proofs.Ytdanlghaiekeaaa.fnSteered
open Go.ChangeShapes Go.WideShapes Go.ChangeAt Go.RowKit
open Go.ChangeMaps (open_string shut_string)
set_option linter.unusedVariables false
theorem own : ownKnob Try.prog.godebug = none := by kernel_rfl
theorem laidOut : laidOutB Try.prog = true := by kernel_rfl
open Go Ieee Go.RowKit
open Go.Proofs.Ytdanlghaiekeaaa.slc Go.Proofs.Ytdanlghaiekeaaa.small Go.Proofs.Ytdanlghaiekeaaa.opens Go.Proofs.Ytdanlghaiekeaaa.places Go.Proofs.Ytdanlghaiekeaaa.placeSet Go.Proofs.Ytdanlghaiekeaaa.listP Go.Proofs.Ytdanlghaiekeaaa.grid Go.Proofs.Ytdanlghaiekeaaa.steps Go.Proofs.Ytdanlghaiekeaaa.listC Go.Proofs.Ytdanlghaiekeaaa.values Go.Proofs.Ytdanlghaiekeaaa.float2 Go.Proofs.Ytdanlghaiekeaaa.float3 Go.Proofs.Ytdanlghaiekeaaa.phase Go.Proofs.Ytdanlghaiekeaaa.sine Go.Proofs.Ytdanlghaiekeaaa.phasor Go.Proofs.Ytdanlghaiekeaaa.steerNum Go.Proofs.Ytdanlghaiekeaaa.steering Go.Proofs.Ytdanlghaiekeaaa.steering2 Go.Proofs.Ytdanlghaiekeaaa.lineI Go.Proofs.Ytdanlghaiekeaaa.sineIn Go.Proofs.Ytdanlghaiekeaaa.polyNum Go.Proofs.Ytdanlghaiekeaaa.polyW Go.Proofs.Ytdanlghaiekeaaa.gPoly Go.Proofs.Ytdanlghaiekeaaa.gNum Go.Proofs.Ytdanlghaiekeaaa.rq Go.Proofs.Ytdanlghaiekeaaa.powW Go.Proofs.Ytdanlghaiekeaaa.steerR Go.Proofs.Ytdanlghaiekeaaa.gap Go.Proofs.Ytdanlghaiekeaaa.gapR Go.Proofs.Ytdanlghaiekeaaa.r8 Go.Proofs.Ytdanlghaiekeaaa.drawOk Go.Proofs.Ytdanlghaiekeaaa.drawR8

theorem build_place (w : World) (x y : Int) : (Instr.build 49 #[(0, .int .i64 x), (1, .int .i64 y)]).run Try.prog w = .ok (.agg #[.int .i64 x, .int .i64 y]) w := run_build w 49 _ _ (by kernel_rfl)
theorem build_dir (w : World) (x : Int) : (Instr.build 41 #[(0, .int .i64 x)]).run Try.prog w = .ok (.agg #[.int .i64 x, .int .i64 0]) w := run_build w 41 _ _ (by kernel_rfl)
theorem cvi6464 (w : World) (n : Int) : (convert 2 43 (.int .i64 n)).run Try.prog w = .ok (.float .f64 (floatOfInt .f64 n)) w :=
  run_convert_int_float w _ _ .i64 .f64 n (by rw [Try.underlying2]; rfl) Try.underlying43
/-! ## numbers -/
theorem dir45 {u v : Int} (h : -45 ≤ u ∧ u ≤ 45) (h' : -45 ≤ v ∧ v ≤ 45) : dirB u v = true := by
  have a : u.natAbs * u.natAbs ≤ 45 * 45 := Nat.mul_le_mul (by omega) (by omega)
  have b : v.natAbs * v.natAbs ≤ 45 * 45 := Nat.mul_le_mul (by omega) (by omega)
  have e1 : u * u = ((u.natAbs * u.natAbs : Nat) : Int) := by simp
  have e2 : v * v = ((v.natAbs * v.natAbs : Nat) : Int) := by simp
  unfold dirB
  refine decide_eq_true ?_
  omega
theorem mul_abs {a b : Int} {m n : Nat} (h1 : a.natAbs ≤ m) (h2 : b.natAbs ≤ n) : (a * b).natAbs ≤ m * n := by
  rw [Int.natAbs_mul]; exact Nat.mul_le_mul h1 h2
theorem sh_vp {ps : List (Int × Int)} (hv : vp ps = true) (hs : ∀ p ∈ ps, Sm1 p) (dx dy : Int) (h1 : -32 ≤ dx ∧ dx ≤ 32) (h2 : -32 ≤ dy ∧ dy ≤ 32) : vp (shift.sh ps dx dy) = true := by
  obtain ⟨a, b, _, d⟩ := vp_yes hv
  refine vp_mk (by rw [shift.sh_len]; exact a) (by rw [shift.sh_len]; exact b) ?_ ?_
  · intro p hp
    obtain ⟨q, hq, rfl⟩ := List.mem_map.1 hp
    have := hs q hq
    unfold Sm1 at this
    exact decide_eq_true (by dsimp only; omega)
  · refine List.pairwise_map.2 (d.imp fun {p q} hpq e => ?_)
    apply hpq
    have e1 := congrArg Prod.fst e
    have e2 := congrArg Prod.snd e
    dsimp only at e1 e2
    exact Prod.ext (by omega) (by omega)
theorem sh_R {ps : List (Int × Int)} (hv : vp ps = true) (hs : ∀ p ∈ ps, Sm1 p) (dx dy : Int) (h1 : -32 ≤ dx ∧ dx ≤ 32) (h2 : -32 ≤ dy ∧ dy ≤ 32) : shift.shR ps dx dy = (shift.sh ps dx dy, true) := by
  have h := sh_vp hv hs dx dy h1 h2
  unfold shift.shR
  rw [if_pos ⟨hv, by omega⟩, h]
  unfold given
  rw [if_pos h]
theorem st_R {ps : List (Int × Int)} {u v : Int} (hv : vp ps = true) (hd : dirB u v = true) : steR ps u v = (stl ps u v, true) := by
  unfold steR; rw [if_pos ⟨hv, hd⟩]
theorem st_of {dx dy u v : Int} (h : okB dx dy = true) (hd : dirB u v = true) : stR dx dy u v = (dx * u + dy * v, true) := by
  unfold stR
  rw [if_pos ⟨h, hd⟩]
theorem stl_get (ps : List (Int × Int)) (u v : Int) (k : Nat) (hk : k < ps.length) : (stl ps u v).getD k (0, 0) = phz (ps[k].1 * u + ps[k].2 * v) := by
  unfold stl
  simp [List.getD, hk]
theorem sh_get (ps : List (Int × Int)) (dx dy u v : Int) (k : Nat) (hk : k < ps.length) : (stl (shift.sh ps dx dy) u v).getD k (0, 0) = phz ((ps[k].1 * u + ps[k].2 * v) + (dx * u + dy * v)) := by
  rw [stl_get _ _ _ _ (by rw [shift.sh_len]; exact hk)]
  have e : (shift.sh ps dx dy)[k]'(by rw [shift.sh_len]; exact hk) = (ps[k].1 + dx, ps[k].2 + dy) := by simp [shift.sh]
  rw [e]
  congr 1
  dsimp only
  grind
/-- What is known of the numbers of a place. -/
theorem num_at {ps : List (Int × Int)} {u v dx dy : Int} (hv : vp ps = true) (hs : ∀ p ∈ ps, Sm1 p) (hu : -45 ≤ u ∧ u ≤ 45) (hv' : -45 ≤ v ∧ v ≤ 45) (h1 : -32 ≤ dx ∧ dx ≤ 32) (h2 : -32 ≤ dy ∧ dy ≤ 32) (k : Nat) (hk : k < ps.length) :
    (ps[k].1 * u + ps[k].2 * v).natAbs ≤ 100000 ∧ (dx * u + dy * v).natAbs ≤ 100000 := by
  have hp := hs _ (List.getElem_mem hk)
  unfold Sm1 at hp
  have a := mul_abs (m := 512) (n := 45) (a := ps[k].1) (b := u) (by omega) (by omega)
  have b := mul_abs (m := 512) (n := 45) (a := ps[k].2) (b := v) (by omega) (by omega)
  have c := mul_abs (m := 32) (n := 45) (a := dx) (b := u) (by omega) (by omega)
  have d := mul_abs (m := 32) (n := 45) (a := dy) (b := v) (by omega) (by omega)
  omega
theorem one_V : V double 4607182418800017408 = ((2 ^ D64 : Nat) : Int) := by rw [V_one, ← four_q]; omega
theorem one_r : r64 4607182418800017408 = 1 := by
  unfold r64
  rw [one_V]
  have := two_pos D64
  have e : (((2 ^ D64 : Nat) : Int) : Rat) = two D64 := rfl
  rw [e]
  grind
theorem one_b : Bd 4607182418800017408 (D64 + 3) := ⟨F_one, by
  rw [one_V, Int.natAbs_natCast]
  exact Nat.pow_le_pow_right (by omega) (by omega)⟩
/-- The gap of a phase's power to 1. -/
theorem gap_one (n : Int) (h : n.natAbs ≤ 524288) : floatToFloatBits .f32 (nw (pwW (phz n))) .f64 = some (wd (nw (pwW (phz n)))) ∧ Bd (wd (nw (pwW (phz n)))) (D64 + 3) ∧ (FloatKind.f64.format.order (gv (wd (nw (pwW (phz n)))) 4607182418800017408) 4562254508917369340 == some .gt) = false := by
  obtain ⟨b, hn⟩ := ph_pow n h
  obtain ⟨e1, e2⟩ := wd_in b (by omega)
  have hr := (wd_r b.1).2
  have hn' : nr (r64 (wd (nw (pwW (phz n))))) (r64 4607182418800017408) (1 / 131072) := by rw [hr, one_r]; exact hn
  obtain ⟨g1, g2⟩ := gv_near e2 one_b (by omega) hn'
  refine ⟨e1, e2, gt_r g1 milli.1 (Rat.le_trans g2 (Rat.le_trans ?_ milli.2))⟩
  rw [show two (3 + 1) = 16 from rfl, two_num 50 1125899906842624 rfl]
  grind
def line8 : List (Int × Int) := [(0, 0), (32, 0), (64, 0), (96, 0), (128, 0), (160, 0), (192, 0), (224, 0)]
theorem line8_vp : vp line8 = true := by decide +kernel
theorem line8_is : gridR 8 1 32 0 = (line8, true) := by decide +kernel
theorem dir_q {k : Int} (h1 : 0 ≤ k) (h2 : k ≤ 4) : dirB (32 * (k - 2)) 0 = true := by
  have h : k = 0 ∨ k = 1 ∨ k = 2 ∨ k = 3 ∨ k = 4 := by omega
  rcases h with rfl | rfl | rfl | rfl | rfl <;> decide
theorem line8_at : ∀ i < 8, line8.getD i (0, 0) = (((32 * i : Nat) : Int), 0) := by decide +kernel
theorem line_q (k : Int) (h1 : 0 ≤ k) (h2 : k ≤ 4) (i : Nat) (hi : i < 8) : Gi ((stl line8 (32 * (k - 2)) 0).getD i (0, 0)) (ipow (i * (k - 2))) := by
  rw [stl_get _ _ _ _ (by exact hi)]
  have h := line8_at i hi
  have e : line8[i]'(by exact hi) = (((32 * i : Nat) : Int), 0) := by
    rw [← h, List.getD_eq_getElem?_getD, List.getElem?_eq_getElem (show i < line8.length from hi)]
    rfl
  rw [e]
  dsimp only
  have e2 : ((32 * i : Nat) : Int) * (32 * (k - 2)) + 0 * 0 = 1024 * ((i : Int) * (k - 2)) := by
    rw [Int.natCast_mul]
    grind
  rw [e2]
  have hm := mul_abs (m := 8) (n := 2) (a := (i : Int)) (b := k - 2) (by omega) (by omega)
  exact quarter _ (by omega)

theorem ipow_mod {a b : Int} (h : a % 4 = b % 4) : ipow a = ipow b := by unfold ipow; rw [h]

attribute [local go_sem] build_place build_dir cvi6464
set_option maxHeartbeats 8000000 in
set_option maxRecDepth 100000 in
theorem law (A A' : Option Addr) (c d : Nat) (z y : List Int) (w : World) (hz : Byt z) (hzy : Byt y) (hm : z.length ≤ 9223372036854775807) (hy : y.length ≤ 9223372036854775807) (hr : Rd w w.heap.size A z.length (bt z)) (hry : Rd w w.heap.size A' y.length (bt y)) :
    Calls Try.prog 11 #[.slice A z.length c, .slice A' y.length d] w fun e w' => e = .returned (.bool true) ∧ Below w.heap.size w w' := by
  by_cases hl : z.length ≤ 48 ∧ y.length ≤ 48
  · have H4 := fun w hr => r8_at A' d w.heap.size y 40 65 w (by omega) (by decide) (by decide) hzy hr
    have H5 := fun w hr => r8_at A' d w.heap.size y 41 65 w (by omega) (by decide) (by decide) hzy hr
    have H6 := fun w hr => r8_at A' d w.heap.size y 42 5 w (by omega) (by decide) (by decide) hzy hr
    rw [show ((40 : Nat) : Int) = 40 from rfl] at H4
    rw [show ((41 : Nat) : Int) = 41 from rfl] at H5
    rw [show ((42 : Nat) : Int) = 42 from rfl] at H6
    obtain ⟨b1, b2⟩ := r8_bd hzy 40 65 (by decide)
    obtain ⟨b3, b4⟩ := r8_bd hzy 41 65 (by decide)
    obtain ⟨b5, b6⟩ := r8_bd hzy 42 5 (by decide)
    generalize r8 y 40 65 = x0 at *
    generalize r8 y 41 65 = y0 at *
    generalize r8 y 42 5 = k0 at *
    obtain ⟨dx, hdx⟩ : ∃ s, x0 - 32 = s := ⟨_, rfl⟩
    obtain ⟨dy, hdy⟩ : ∃ s, y0 - 32 = s := ⟨_, rfl⟩
    have hdx1 : -32 ≤ dx ∧ dx ≤ 32 := by omega
    have hdy1 : -32 ≤ dy ∧ dy ≤ 32 := by omega
    have hokd : okB dx dy = true := drawOk.ok_small dx dy (by omega) (by omega) (by omega) (by omega)
    have hps := places_sm A c z w (by omega) hz hr
    have HPS := Lib.hid hps
    clear hps b1 b2 b3 b4
    go_enter Try.func11, Try.ntmps11
    go_wp2_with fail
    refine (long_no _ _ _ _ _ _ _ hl.1 hl.2).mono ?_
    rintro e w' ⟨rfl, rfl⟩
    go_wp2_with fail
    refine HPS.out.mono ?_
    rintro e w1 ⟨ps, A1, c1, ⟨hv, hs⟩, rfl, ho1, g1⟩
    have R1 := Rd.of_lst ho1 rfl
    have hdr := direction_is A' d y w1 (by omega) hzy ((hry.kept0 g1 (Nat.le_refl _)).mono g1.size)
    have HDR := Lib.hid hdr
    have hl16 := vp_yes hv
    have hn1 := hl16.1
    have hn2 := hl16.2.1
    clear hdr ho1 HPS hl16
    go_wp2_with fail
    refine HDR.out.mono ?_
    rintro e w2 ⟨u, v, hu, hv', rfl, g2⟩
    have hd := dir45 hu hv'
    have g02 := g1.trans g2
    have R2 := R1.kept0 g2 (Nat.le_refl _)
    have hb1 := g2.size
    have ga := World.grownBy_alloc w2 (.cells #[.int .i64 u, .int .i64 v] 41) none
    have da := Dx.new w2 u v
    have R3 := (R2.kept0 ga hb1).mono (Nat.le_trans hb1 ga.size)
    have g03 := g02.trans ga
    have y3 := (hry.kept0 g03 (Nat.le_refl _)).mono g03.size
    obtain ⟨w3, hw3⟩ : ∃ w3, w2.alloc (.cells #[.int .i64 u, .int .i64 v] 41) = w3 := ⟨_, rfl⟩
    rw [hw3] at da R3 g03 y3
    generalize hB : w2.heap.size = hb at *
    have HW3 := Lib.hid hw3
    have HS3 := Lib.hid (And.intro da (And.intro R3 (And.intro g03 y3)))
    have HN := Lib.hid (And.intro hv (And.intro hs hd))
    clear HDR R1 R2 g02 g1 g2 hw3 ga da R3 g03 y3 hv hs hd hb1
    go_wp2_with fail
    obtain ⟨da, R3, g03, y3⟩ := HS3.out
    rw [HW3.out]
    refine (H4 _ y3).mono ?_
    rintro e w' ⟨rfl, rfl⟩
    go_wp2_with fail
    refine (H5 _ y3).mono ?_
    rintro e w' ⟨rfl, rfl⟩
    clear H4 H5 HW3 HS3
    obtain ⟨hv, hs, hd⟩ := HN.out
    have hst1 := impl_c ps u v
    rw [st_R hv hd] at hst1
    have hsv := sh_vp hv hs dx dy hdx1 hdy1
    have hst2 := impl_c (shift.sh ps dx dy) u v
    rw [st_R hsv hd] at hst2
    have h1 := hst1 A1 c1 w3.heap.size w3 (by omega) R3 (Nat.le_refl _)
    rw [stl_len] at h1
    have H1 := Lib.hid h1
    have HS2 := Lib.hid hst2
    have hm1 : (dx * u + dy * v).natAbs ≤ 100000 := (num_at hv hs hu hv' hdx1 hdy1 0 hn1).2
    have mu := mul_abs (m := 32) (n := 45) (a := dx) (b := u) (by omega) (by omega)
    have mv := mul_abs (m := 32) (n := 45) (a := dy) (b := v) (by omega) (by omega)
    have HY := Lib.hid y3
    have HG3 := Lib.hid g03
    have HD := Lib.hid da
    have HR3 := Lib.hid R3
    obtain ⟨cx, cy, _, _⟩ := da.facts
    clear hv hs hd hst1 hst2 hsv h1 y3 g03 da R3 hry hr
    go_wp2_with fail
    refine H1.out.mono ?_
    rintro e w4 ⟨A4, c4, rfl, ho4, g4⟩
    have R4 := Rd.of_lst ho4 (Nat.mul_one _).symm
    have hsh := shift.impl_c A1 c1 w3.heap.size ps dx dy w4 (by omega) (HR3.out.kept0 g4 (Nat.le_refl _)) g4.size
    rw [sh_R HN.out.1 HN.out.2.1 dx dy hdx1 hdy1] at hsh
    have HSH := Lib.hid hsh
    have d4 := HD.out.keep g4 (by simp)
    have HD4 := Lib.hid d4
    have HG4 := Lib.hid g4
    have HR4 := Lib.hid R4
    clear hsh ho4 g4 R4 cx cy d4 H1
    go_wp2_with fail
    refine HSH.out.mono ?_
    rintro e w5 ⟨A5, c5, rfl, ho5, g5⟩
    have R5 := Rd.of_lst ho5 rfl
    have hlen5 : (shift.sh ps dx dy).length = ps.length := shift.sh_len ps dx dy
    have h2 := HS2.out A5 c5 w5.heap.size w5 (by omega) R5 (Nat.le_refl _)
    rw [hlen5] at h2
    have H2 := Lib.hid h2
    have d5 := HD4.out.keep g5 (by simp)
    obtain ⟨cx, cy, _, _⟩ := d5.facts
    have HD5 := Lib.hid d5
    have HG5 := Lib.hid g5
    clear h2 ho5 R5 g5 d5 HSH HS2
    go_wp2_with fail
    refine H2.out.mono ?_
    rintro e w6 ⟨A6, c6, rfl, ho6, g6⟩
    have R6 := Rd.of_lst ho6 (Nat.mul_one _).symm
    have hlen6 : (stl (shift.sh ps dx dy) u v).length = ps.length := by rw [stl_len, hlen5]
    have d6 := HD5.out.keep g6 (by simp)
    obtain ⟨cx, cy, _, _⟩ := d6.facts
    have hsp := st_impl dx dy u v w6
    rw [st_of hokd HN.out.2.2] at hsp
    have HSP := Lib.hid hsp
    have HD6 := Lib.hid d6
    have HG6 := Lib.hid g6
    have HR6 := Lib.hid R6
    clear hsp ho6 g6 R6 d6 H2
    go_wp2_with fail
    refine HSP.out.mono ?_
    rintro e w7 ⟨rfl, g7⟩
    have d7 := HD6.out.keep g7 (by simp)
    obtain ⟨cx, cy, _, _⟩ := d7.facts
    have g37 := ((HG4.out.trans HG5.out).trans HG6.out).trans g7
    have R37 := HR3.out.kept0 g37 (Nat.le_refl _)
    have hip := is_impl A1 c1 w3.heap.size ps w7 (by omega) R37 g37.size
    rw [HN.out.1] at hip
    have HIP := Lib.hid hip
    have HD7 := Lib.hid d7
    have HG7 := Lib.hid g7
    have HG37 := Lib.hid g37
    clear hip d7 g7 g37 R37 HSP
    go_wp2_with fail
    refine HIP.out.mono ?_
    rintro e w8 ⟨rfl, g8⟩
    have d8 := HD7.out.keep g8 (by simp)
    obtain ⟨cx, cy, _, _⟩ := d8.facts
    have hdi := dir_impl u v w8
    rw [HN.out.2.2] at hdi
    have HDI := Lib.hid hdi
    have HD8 := Lib.hid d8
    have HG8 := Lib.hid g8
    clear hdi d8 g8 HIP
    go_wp2_with fail
    refine HDI.out.mono ?_
    rintro e w9 ⟨rfl, g9⟩
    have d9 := HD8.out.keep g9 (by simp)
    obtain ⟨cx, cy, _, _⟩ := d9.facts
    have HD9 := Lib.hid d9
    have hg39 := (HG37.out.trans HG8.out).trans g9
    have R4 := HR4.out.kept0 (((((HG5.out.trans HG6.out).trans HG7.out).trans HG8.out).trans g9)) (Nat.le_refl _)
    have R6 := HR6.out.kept0 ((HG7.out.trans HG8.out).trans g9) (Nat.le_refl _)
    have hs4 := ((((HG5.out.trans HG6.out).trans HG7.out).trans HG8.out).trans g9).size
    have hs6 := ((HG7.out.trans HG8.out).trans g9).size
    have HR49 := Lib.hid (And.intro (R4.mono hs4) (And.intro (R6.mono hs6) hg39))
    clear d9 g9 hg39 R4 R6 hs4 hs6 HDI
    generalize hme : dx * u + dy * v = m at *
    have hM : m.natAbs ≤ 524288 := by omega
    have hq := fun w : World => run_ok (P := Try.prog) (sx_ok m hM).1 rfl (w := w) (t := 43)
    have hph := phc_impl m w9 hM
    have HPH := Lib.hid hph
    have HL6 := Lib.hid hlen6
    clear hph hlen6
    go_wp2_with fail
    refine HPH.out.mono ?_
    rintro e w' ⟨rfl, rfl⟩
    clear hq HPH cx cy
    go_wp2_with fail
    go_loopw [18] (fun i wr => ∃ k : Nat, k ≤ ps.length ∧ i = .int .i64 k ∧ w9.grownBy wr none) (fun i _ => ps.length - (intOf i).toNat)
    case atStart => exact ⟨0, Nat.zero_le _, rfl, World.grownBy.refl _ _⟩
    case round =>
      obtain ⟨k, hk, rfl, hg⟩ := hrel
      by_cases hlt : k < ps.length
      · have hnb := (num_at HN.out.1 HN.out.2.1 hu hv' hdx1 hdy1 k hlt).1
        obtain ⟨ad4, rfl, _, hc4⟩ := (HR49.out.1.kept0 hg (Nat.le_refl _)).at_ (k := k) hlt
        obtain ⟨ad6, rfl, _, hc6⟩ := (HR49.out.2.1.kept0 hg (Nat.le_refl _)).at_ (k := k) (by rw [HL6.out]; exact hlt)
        unfold ccell at hc4 hc6
        rw [stl_get _ _ _ _ hlt] at hc4
        rw [sh_get _ _ _ _ _ _ hlt, hme] at hc6
        generalize ps[k].1 * u + ps[k].2 * v = n at *
        obtain ⟨ga1, ga2, ga3⟩ := gap_one n (by omega)
        obtain ⟨mc, mo, p1, p2⟩ := ph_mul n m (by omega) hM (by omega)
        have cX := (ph_r n (by omega)).1
        have cY := (ph_r (n + m) (by omega)).1
        obtain ⟨f1, f2⟩ := apart_small (cY.mono (by omega)) mc p1 p2
        have hgt2 := gt_r f1 milli.1 (Rat.le_trans f2 milli.2)
        have Q1 := Lib.hid (fun (w : World) (q : Nat) => Calls.quiet_of_same ((powerOf_c cX (by omega) (w.drewN q)).mono (by rintro e w' ⟨rfl, rfl⟩; exact ⟨rfl, rfl⟩)))
        have Q2 := Lib.hid (fun (w : World) (q : Nat) => Calls.quiet_of_same ((gap_any ga2 one_b (by omega) (w.drewN q)).mono (by rintro e w' ⟨rfl, rfl⟩; exact ⟨rfl, rfl⟩)))
        have Q3 := Lib.hid (fun (w : World) (q : Nat) => Calls.quiet_of_same ((mul_impl mo (w.drewN q)).mono (by rintro e w' ⟨rfl, rfl⟩; exact ⟨rfl, rfl⟩)))
        have Q4 := Lib.hid (fun (w : World) (q : Nat) => Calls.quiet_of_same ((apart_c (cY.mono (by omega)) mc p1 p2 (w.drewN q)).mono (by rintro e w' ⟨rfl, rfl⟩; exact ⟨rfl, rfl⟩)))
        have hcw := fun w : World => cvw ga1 w
        clear ga1 ga2 mc mo p1 p2 cX cY f1 f2
        generalize apW (phz (n + m)) (mulw (phz n) (phz m)) = AP at *
        generalize mulw (phz n) (phz m) = MU at *
        generalize phz (n + m) = Y at *
        generalize phz m = Z at *
        generalize phz n = X at *
        generalize gv (wd (nw (pwW X))) 4607182418800017408 = G at *
        generalize wd (nw (pwW X)) = W1 at *
        generalize nw (pwW X) = P1 at *
        have k0 : (0 : Int) ≤ k := by omega
        have k1 : (k : Int) < ps.length := by omega
        go_wp2_with fail
        go_quiet (first | (go_at_call 79; exact Q1.out _ _) | (go_at_call 34; exact Q2.out _ _) | (go_at_call 20; exact Q3.out _ _) | (go_at_call 80; exact Q4.out _ _))
        have hgd := hg.trans (gb_drewN wr nq none)
        clear hc4 hc6 hg Q1 Q2 Q3 Q4 hcw
        generalize wr.drewN nq = wq at *
        go_wp2_with fail
        go_roundw
        case rel => exact ⟨k + 1, by omega, by go_num, hgd⟩
        case measure => simp [intOf]; omega
      · obtain rfl : k = ps.length := by omega
        have hgz := HG3.out.trans (HR49.out.2.2.trans hg)
        have hgw := hg
        clear hg
        have hlp := line_impl 8 32
        rw [line8_is] at hlp
        have HLP := Lib.hid (hlp wr)
        have hst3 := impl_c line8 (32 * (k0 - 2)) 0
        rw [st_R line8_vp (dir_q b5 (by omega))] at hst3
        have HST := Lib.hid hst3
        have HGZ := Lib.hid hgz
        have HGW := Lib.hid (HR49.out.2.2.trans hgw)
        clear hlp hst3 hgz hgw HR49 HN
        go_wp2_with fail
        refine HLP.out.mono ?_
        rintro e wa ⟨Aa, ca, rfl, hoa, ga⟩
        have Ra := Rd.of_lst hoa rfl
        have g3a := HGW.out.trans ga
        have ya := (HY.out.kept0 g3a (Nat.le_refl _)).mono g3a.size
        have gza := HGZ.out.trans ga
        have h3 := HST.out Aa ca wa.heap.size wa (by decide) Ra (Nat.le_refl _)
        rw [stl_len, show line8.length = 8 from rfl] at h3
        have HH3 := Lib.hid h3
        have HGA := Lib.hid gza
        clear h3 gza g3a ga hoa Ra HLP HST HGZ HGW
        go_wp2_with fail
        refine (H6 _ ya).mono ?_
        rintro e w' ⟨rfl, rfl⟩
        have w1' : IntKind.i64.wrap (32 * (k0 - 2)) = 32 * (k0 - 2) := by rw [IntKind.wrap_i64]; omega
        go_wp2_with fail
        refine HH3.out.mono ?_
        rintro e wb ⟨Ab, cb, rfl, hob, gb⟩
        have Rb := Rd.of_lst hob (Nat.mul_one _).symm
        have yb := (ya.kept0 gb (Nat.le_refl _)).mono gb.size
        have HB := Lib.hid (And.intro Rb (And.intro yb (HGA.out.trans gb)))
        clear hob gb ya yb Rb HH3 HGA
        go_wp2_with fail
        go_loopw [23, 24] (fun t i wr => ∃ (j : Nat) (x : Nat × Nat), (j : Int) ≤ k0 ∧ i = .int .i64 j ∧ t = .complex .f32 x.1 x.2 ∧ Gi x (ipow j) ∧ wb.grownBy wr none) (fun _ i _ => k0.toNat - (intOf i).toNat)
        case atStart => exact ⟨0, (1065353216, 0), b5, rfl, rfl, w_one, World.grownBy.refl _ _⟩
        case round =>
          obtain ⟨j, x, hj, rfl, rfl, hx, hg⟩ := hrel
          have yj := (HB.out.2.1.kept0 hg (Nat.le_refl _)).mono hg.size
          by_cases hlt : (j : Int) < k0
          · obtain ⟨mo, mg⟩ := ipow_word hx w_i
            have HM := Lib.hid mo
            have HGi := Lib.hid mg
            clear mo mg
            go_wp2_with fail
            refine (H6 _ yj).mono ?_
            rintro e w' ⟨rfl, rfl⟩
            go_wp2_with fail
            refine (mul_impl HM.out _).mono ?_
            rintro e w' ⟨rfl, rfl⟩
            go_wp2_with fail
            go_roundw
            case rel => exact ⟨j + 1, mulw x (0, 1065353216), by omega, by go_num, rfl, HGi.out, hg⟩
            case measure => simp [intOf]; omega
          · obtain hjk : (j : Int) = k0 := by omega
            have hle : k0 ≤ (j : Int) := by omega
            obtain ⟨mo, mg⟩ := ipow_word hx w_neg
            rw [hjk] at mg
            have HM := Lib.hid mo
            have HGi := Lib.hid mg
            clear mo mg hx
            go_wp2_with fail
            refine (H6 _ yj).mono ?_
            rintro e w' ⟨rfl, rfl⟩
            go_wp2_with fail
            refine (mul_impl HM.out _).mono ?_
            rintro e w' ⟨rfl, rfl⟩
            generalize mulw x (3212836864, 0) = TU at *
            go_wp2_with fail
            go_loopw [25, 26] (fun t i wr => ∃ (q : Nat) (x : Nat × Nat), q ≤ 8 ∧ i = .int .i64 q ∧ t = .complex .f32 x.1 x.2 ∧ Gi x (ipow (q * (k0 + 2))) ∧ wb.grownBy wr none) (fun _ i _ => 8 - (intOf i).toNat)
            case atStart => exact ⟨0, (1065353216, 0), by omega, rfl, rfl, by simpa using w_one, hg⟩
            case round =>
              obtain ⟨q, N, hq, rfl, rfl, hN, hgq⟩ := hrel
              by_cases hq8 : q < 8
              · obtain ⟨adb, rfl, _, hcb⟩ := (HB.out.1.kept0 hgq (Nat.le_refl _)).at_ (k := q) hq8
                unfold ccell at hcb
                have hE := line_q k0 b5 (by omega) q hq8
                rw [ipow_mod (b := (q : Int) * (k0 + 2)) (by rw [Int.mul_sub, Int.mul_add]; omega)] at hE
                obtain ⟨he1, he2⟩ := ipow_eq hE hN
                obtain ⟨mo, mg⟩ := ipow_word hN HGi.out
                have HM2 := Lib.hid mo
                have HG2 := Lib.hid mg
                clear mo mg hE hN
                generalize (stl line8 (32 * (k0 - 2)) 0).getD q (0, 0) = E at *
                have q0 : (0 : Int) ≤ q := by omega
                have q1 : (q : Int) < 8 := by omega
                go_wp2_with fail
                refine (mul_impl HM2.out _).mono ?_
                rintro e w' ⟨rfl, rfl⟩
                go_wp2_with fail
                go_roundw
                case rel =>
                  refine ⟨q + 1, mulw N TU, by omega, by go_num, rfl, ?_, hgq⟩
                  rw [show ((q + 1 : Nat) : Int) * (k0 + 2) = (q : Int) * (k0 + 2) + (k0 + 2) by rw [Int.natCast_add, Int.add_mul]; omega]
                  exact HG2.out
                case measure => simp [intOf]; omega
              · obtain rfl : q = 8 := by omega
                go_wp2_with fail
                go_ret
                exact ⟨rfl, gb_below (HB.out.2.2.trans hgq)⟩
  · have hl' : 48 < z.length ∨ 48 < y.length := by omega
    go_enter Try.func11, Try.ntmps11
    go_wp2_with fail
    refine (long_yes _ _ _ _ _ _ _ hl' hm hy).mono ?_
    rintro e w' ⟨rfl, rfl⟩
    go_wp2_with fail
    go_ret
    exact ⟨rfl, Below.refl _ _⟩

theorem walk (a0 : Option Addr) (len0 cap0 : Nat) (z0 : List Int) (a1 : Option Addr) (len1 cap1 : Nat) (z1 : List Int) (w : World) (l0 : z0.length = len0) (m0 : len0 ≤ maxLen) (w0 : ∀ x ∈ z0, (Lit.int .u8 x).wf = true) (r0 : Rd w w.heap.size a0 len0 (fun j => .int .u8 (z0.getD j 0)))
    (l1 : z1.length = len1) (m1 : len1 ≤ maxLen) (w1 : ∀ x ∈ z1, (Lit.int .u8 x).wf = true) (r1 : Rd w w.heap.size a1 len1 (fun j => .int .u8 (z1.getD j 0))) :
    Calls Try.prog 11 #[.slice a0 len0 cap0, .slice a1 len1 cap1] w fun e w' => e = .returned (.bool true) ∧ Below w.heap.size w w' := by
  subst l0 l1
  unfold maxLen at m0 m1
  exact law a0 a1 cap0 cap1 z0 z1 w (Byt.of w0) (Byt.of w1) (by omega) (by omega) r0 r1

set_option maxRecDepth 100000 in
theorem lifted (os : Os) (started : os.Started) (H : Type) (enc : TypeId × Value → H) :
    ReturnsInHanded {} Try.checked os 11 .any (Rows.fnSteeredSpec.pre6 enc Try.prog Try.f11 Rows.fnSteeredRow.domain false) (Rows.fnSteeredSpec.post enc Try.prog Try.f11 false true false false) := by
  refine returnsInHanded_of_change (C := Try.checked) own started (by kernel_rfl) Try.func11
    (ChangeSpec.witness6 (enc := enc) (C := Try.checked) false ⟨#[], #[.slice none 0 0, .slice none 0 0], []⟩ 8 (by kernel_rfl) (by kernel_rfl) (by kernel_rfl) (by kernel_rfl)) ?_
  intro W base args ds gs before hval0 hW hcnd _
  have hval : ∀ (j : Nat) t v, Try.f11.params[j]? = some t → args[j]? = some v → Value.okWide Try.prog W .any base t v := hval0
  have hW' := hW
  obtain ⟨p, q, hA0, hV, rfl, hfz, hnd⟩ := hW
  have hA : DataW.TrodAll enc Try.prog W 0 (fun _ => true) true Try.f11.params.toList args.toList ds p := hA0
  rw [Try.params11] at hA hval
  obtain ⟨v0, vs0, d0, ds0, p0, q0, hargs, rfl, rfl, h0, r0⟩ := trodAll_cons hA
  obtain ⟨v1, vs1, d1, ds1, p1, q1, rfl, rfl, rfl, h1, r1⟩ := trodAll_cons r0
  obtain ⟨rfl, rfl, rfl⟩ := trodAll_nil r1
  obtain rfl : args = #[v0, v1] := by cases args; simp_all
  obtain ⟨rfl, rfl⟩ := trodVars_none hV
  obtain ⟨a0, len0, cap0, rfl⟩ := okWide_slice Try.underlying22 (hval 0 22 v0 rfl rfl)
  have k0 := h0
  have lt0 : ∀ x ∈ p0, x.block < W.heap.size := by obtain ⟨m, hm⟩ := k0; exact DataW.trod_lt m _ _ _ hm
  obtain ⟨z0, l0, m0, w0, r0'⟩ := opened_ints Try.underlying22 Try.underlying5 (by kernel_rfl) k0
  obtain ⟨a1, len1, cap1, rfl⟩ := okWide_slice Try.underlying22 (hval 1 22 v1 rfl rfl)
  have k1 := h1
  have lt1 : ∀ x ∈ p1, x.block < W.heap.size := by obtain ⟨m, hm⟩ := k1; exact DataW.trod_lt m _ _ _ hm
  obtain ⟨z1, l1, m1, w1, r1'⟩ := opened_ints Try.underlying22 Try.underlying5 (by kernel_rfl) k1
  clear hA0 hval0
  refine (walk a0 len0 cap0 z0 a1 len1 cap1 z1 W l0 m0 w0 r0' l1 m1 w1 r1').mono fun e W' ⟨he, bel⟩ => ?_
  subst he
  exact ⟨_, rfl, _, _, _, [], _, [], hW', trodAll_mk1 (shut_bool Try.underlying4 _), (trodAll_cons_mk (Below.trod laidOut (by kernel_rfl) (of_decide_eq_true (by kernel_rfl)) k0 bel lt0) (trodAll_cons_mk (Below.trod laidOut (by kernel_rfl) (of_decide_eq_true (by kernel_rfl)) k1 bel lt1) trodAll_mk0)), rfl, bel.frame _, fun h => by cases h⟩

theorem over : Rows.fnSteeredRow.holds Try.pinned (OpenSpec.ofChange Rows.fnSteeredSpec) :=
  OpenClaim.holds_of_wide 11 Try.f11 rfl rfl rfl rfl rfl rfl rfl ⟨rfl, rfl, rfl, rfl, rfl⟩ rfl rfl rfl rfl rfl (by kernel_rfl) Try.func11 (by kernel_rfl)
    (of_decide_eq_true (by kernel_rfl)) (by unfold Func.isWrapper; first | (rw [if_pos (by decide +kernel)]; kernel_rfl) | (rw [if_neg (by decide +kernel)]; exact ⟨rfl, rfl⟩))
    (fun os started H enc _ => lifted os started H enc)

theorem proved : Rows.FnSteeredSaid := over
#print axioms proved
end Go.Proofs.Ytdanlghaiekeaaa.fnSteered
