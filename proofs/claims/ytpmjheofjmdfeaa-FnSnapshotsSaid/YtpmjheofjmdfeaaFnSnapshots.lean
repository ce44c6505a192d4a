/- A source alone without noise gives its symbol times its gain in each phase, noise is at most its level, and snapshots are those of their indices: the law answers true at every input. No condition. -/
import Derived.Test.YtpmjheofjmdfeaaRows
import Derived.Test.YtpmjheofjmdfeaaSlc
import Derived.Test.YtpmjheofjmdfeaaSmall
import Derived.Test.YtpmjheofjmdfeaaListI
import Derived.Test.YtpmjheofjmdfeaaOpens
import Derived.Test.YtpmjheofjmdfeaaR8
import Derived.Test.YtpmjheofjmdfeaaFloatAll
import Derived.Test.YtpmjheofjmdfeaaFWalk
import Derived.Test.YtpmjheofjmdfeaaFinWalk
import Derived.Test.YtpmjheofjmdfeaaRoot
import Derived.Test.YtpmjheofjmdfeaaFlAll
import Derived.Test.YtpmjheofjmdfeaaPhasor
import Derived.Test.YtpmjheofjmdfeaaListC
import Derived.Test.YtpmjheofjmdfeaaListCC
import Derived.Test.YtpmjheofjmdfeaaSteerNum
import Derived.Test.YtpmjheofjmdfeaaSineIn
import Derived.Test.YtpmjheofjmdfeaaPolyAll
import Derived.Test.YtpmjheofjmdfeaaGAll
import Derived.Test.YtpmjheofjmdfeaaTwinNum
import Derived.Test.YtpmjheofjmdfeaaPhDef
import Derived.Test.YtpmjheofjmdfeaaPhTabA
import Derived.Test.YtpmjheofjmdfeaaPhTabB
import Derived.Test.YtpmjheofjmdfeaaPhTabC
import Derived.Test.YtpmjheofjmdfeaaPhTabD
import Derived.Test.YtpmjheofjmdfeaaPhAll
import Derived.Test.YtpmjheofjmdfeaaFitAll
import Derived.Test.YtpmjheofjmdfeaaPlaceAll
import Derived.Test.YtpmjheofjmdfeaaSteering
import Derived.Test.YtpmjheofjmdfeaaSteering2
import Derived.Test.YtpmjheofjmdfeaaSeedAll
import Derived.Test.YtpmjheofjmdfeaaSrcsAll
import Derived.Test.YtpmjheofjmdfeaaShotAll
import Derived.Test.YtpmjheofjmdfeaaNestAll
import Derived.Test.YtpmjheofjmdfeaaDrawAll
import Derived.Test.YtpmjheofjmdfeaaBits
import Derived.Test.YtpmjheofjmdfeaaSameC
import Derived.Test.YtpmjheofjmdfeaaSnapNAll
import Derived.Test.YtpmjheofjmdfeaaSameQ
import Derived.Test.YtpmjheofjmdfeaaCountW
import Derived.WalkKit
import Derived.ProofKit
import Derived.OpenShut
import Derived.ShutString
import Derived.ChangeOld
import Derived.Below
import Derived.Lib.Hide
import Derived.BigQuiet
import Derived.Deep.QuietTactic
import Derived.WalkLawsBesides
import Derived.Outline
import Derived.RangeFuncBox
import Derived.Deep.LoopGhost
import Derived.Deep.RegionHeld3
import Derived.Deep.RegionWith
import Derived.Laws.ComplexArith
namespace Go.Proofs.Ytpmjheofjmdfeaa.fnSnapshots
open Go.ChangeShapes Go.WideShapes Go.ChangeAt Go.RowKit
open Go.ChangeMaps (open_string shut_string)
set_option linter.unusedVariables false
theorem own : ownKnob Try.prog.godebug = none := by kernel_rfl
theorem laidOut : laidOutB Try.prog = true := by kernel_rfl
open Go Ieee Go.RowKit
open Go.Proofs.Ytpmjheofjmdfeaa.slc Go.Proofs.Ytpmjheofjmdfeaa.small Go.Proofs.Ytpmjheofjmdfeaa.opens Go.Proofs.Ytpmjheofjmdfeaa.r8 Go.Proofs.Ytpmjheofjmdfeaa.floats Go.Proofs.Ytpmjheofjmdfeaa.values Go.Proofs.Ytpmjheofjmdfeaa.conv Go.Proofs.Ytpmjheofjmdfeaa.listC Go.Proofs.Ytpmjheofjmdfeaa.steerNum Go.Proofs.Ytpmjheofjmdfeaa.places Go.Proofs.Ytpmjheofjmdfeaa.listP Go.Proofs.Ytpmjheofjmdfeaa.seeds Go.Proofs.Ytpmjheofjmdfeaa.symbol Go.Proofs.Ytpmjheofjmdfeaa.noise Go.Proofs.Ytpmjheofjmdfeaa.sources Go.Proofs.Ytpmjheofjmdfeaa.srcs Go.Proofs.Ytpmjheofjmdfeaa.shot Go.Proofs.Ytpmjheofjmdfeaa.snap Go.Proofs.Ytpmjheofjmdfeaa.nest Go.Proofs.Ytpmjheofjmdfeaa.snaps Go.Proofs.Ytpmjheofjmdfeaa.drawR8 Go.Proofs.Ytpmjheofjmdfeaa.sameC Go.Proofs.Ytpmjheofjmdfeaa.snapNum Go.Proofs.Ytpmjheofjmdfeaa.snapNum2 Go.Proofs.Ytpmjheofjmdfeaa.countW Go.Proofs.Ytpmjheofjmdfeaa.polyNum Go.Proofs.Ytpmjheofjmdfeaa.powW Go.Proofs.Ytpmjheofjmdfeaa.shot

theorem build_src (w : World) (u v : Int) (g : Nat) (s : Int) : (Instr.build 37 #[(0, .agg #[.int .i64 u, .int .i64 v]), (1, .float .f32 g), (2, .int .i64 s)]).run Try.prog w = .ok (.agg #[.int .i64 u, .int .i64 v, .float .f32 g, .int .i64 s]) w := run_build w 37 _ _ (by kernel_rfl)
theorem cvi6432 (w : World) (n : Int) : (convert 2 35 (.int .i64 n)).run Try.prog w = .ok (.float .f32 (floatOfInt .f32 n)) w :=
  run_convert_int_float w _ _ .i64 .f32 n (by rw [Try.underlying2]; rfl) Try.underlying35
theorem run32 {op : BinOp} {x y r : Nat} (h : floatBits op .f32 x y = some r) (ha : arithOp op = true) (w : World) (t : TypeId) : (binOp op t (.float .f32 x) (.float .f32 y)).run Try.prog w = .ok (.float .f32 r) w := by
  rw [run_floatop w op t .f32 x y ha]
  have e1 : fval op .f32 w x y = r := by unfold fval; rw [h]
  have e2 : fcnt op .f32 x y = 0 := by unfold fcnt; rw [h]; rfl
  rw [e1, e2]
  rfl
theorem dir45 {u v : Int} (h : -45 ≤ u ∧ u ≤ 45) (h' : -45 ≤ v ∧ v ≤ 45) : dirB u v = true := by
  have a : u.natAbs * u.natAbs ≤ 45 * 45 := Nat.mul_le_mul (by omega) (by omega)
  have b : v.natAbs * v.natAbs ≤ 45 * 45 := Nat.mul_le_mul (by omega) (by omega)
  have e1 : u * u = ((u.natAbs * u.natAbs : Nat) : Int) := by simp
  have e2 : v * v = ((v.natAbs * v.natAbs : Nat) : Int) := by simp
  unfold dirB
  refine decide_eq_true ?_
  omega
theorem src_rd (w : World) (u v : Int) (g : Nat) (s : Int) : Rd (w.alloc (.cells #[.int .i64 u, .int .i64 v, .float .f32 g, .int .i64 s] 37)) (w.alloc (.cells #[.int .i64 u, .int .i64 v, .float .f32 g, .int .i64 s] 37)).heap.size (some ⟨w.heap.size, 0, none⟩) (1 * 4) (scell [(u, v, g, s)]) := by
  intro _
  refine ⟨_, rfl, by simp, fun j hj => ?_⟩
  rw [slc.add_plain, Nat.zero_add]
  have h := heap_alloc_new w (.cells #[.int .i64 u, .int .i64 v, .float .f32 g, .int .i64 s] 37)
  match j, hj with
  | 0, _ => exact cell_of_row _ _ 0 _ _ _ h
  | 1, _ => exact cell_of_row _ _ 1 _ _ _ h
  | 2, _ => exact cell_of_row _ _ 2 _ _ _ h
  | 3, _ => exact cell_of_row _ _ 3 _ _ _ h
theorem src_vs {u v : Int} {g : Nat} {s : Int} (hd : dirB u v = true) (h : 0 ≤ s ∧ s ≤ 2147483647) : vs [(u, v, g, s)] = true := by
  unfold vs sb
  simp [hd, h]
theorem src_so {ps : List (Int × Int)} {u v : Int} {g : Nat} {s i : Int} (hv : vp ps = true) (hd : dirB u v = true) (h : 0 ≤ s ∧ s ≤ 2147483647) (hi : 0 ≤ i ∧ i ≤ 1000000) : soOk ps [(u, v, g, s)] s i = true := by
  unfold soOk caOk
  rw [hv, src_vs hd h, decide_eq_true h, decide_eq_true hi]
  rfl
theorem neg_c (a b : Nat) (w : World) : (Op.unary .neg (.complex .f32 a b)).run Try.prog w = .ok (.complex .f32 (Op.negFloat .f32 a) (Op.negFloat .f32 b)) w := rfl
attribute [local go_sem] build_src cvi6432 neg_c
set_option maxHeartbeats 8000000 in
set_option maxRecDepth 100000 in
theorem law (A A' : Option Addr) (c d : Nat) (z y : List Int) (w : World) (hz : Byt z) (hzy : Byt y) (hm : z.length ≤ 9223372036854775807) (hy : y.length ≤ 9223372036854775807) (hr : Rd w w.heap.size A z.length (bt z)) (hry : Rd w w.heap.size A' y.length (bt y)) :
    Calls Try.prog 4 #[.slice A z.length c, .slice A' y.length d] w fun e w' => e = .returned (.bool true) ∧ Below w.heap.size w w' := by
  by_cases hl : z.length ≤ 48 ∧ y.length ≤ 48
  · have HR := Lib.hid (fun (k : Nat) (n : Int) (w2 : World) (g : w.grownBy w2 none) (h2 : 2 ≤ n) (h3 : n ≤ 1000000) => r8_at A' d w2.heap.size y k n w2 (by omega) h2 h3 hzy ((hry.kept0 g (Nat.le_refl _)).mono g.size))
    obtain ⟨a0, a1⟩ := r8_bd hzy 40 256 (by decide)
    obtain ⟨b0, b1⟩ := r8_bd hzy 41 256 (by decide)
    obtain ⟨f0, f1⟩ := r8_bd hzy 42 200 (by decide)
    obtain ⟨r0, r1⟩ := r8_bd hzy 43 8 (by decide)
    have H1 := Lib.hid (fun (w2 : World) (g : w.grownBy w2 none) => HR.out 40 256 w2 g (by decide) (by decide))
    have H2 := Lib.hid (fun (w2 : World) (g : w.grownBy w2 none) => HR.out 41 256 w2 g (by decide) (by decide))
    have H3 := Lib.hid (fun (w2 : World) (g : w.grownBy w2 none) => HR.out 42 200 w2 g (by decide) (by decide))
    have H4 := Lib.hid (fun (w2 : World) (g : w.grownBy w2 none) => HR.out 43 8 w2 g (by decide) (by decide))
    rw [show ((40 : Nat) : Int) = 40 from rfl] at H1
    rw [show ((41 : Nat) : Int) = 41 from rfl] at H2
    rw [show ((42 : Nat) : Int) = 42 from rfl] at H3
    rw [show ((43 : Nat) : Int) = 43 from rfl] at H4
    generalize r8 y 40 256 = a at *
    generalize r8 y 41 256 = b at *
    generalize r8 y 42 200 = f at *
    obtain ⟨r, hr8⟩ : ∃ r : Nat, r8 y 43 8 = (r : Int) := ⟨(r8 y 43 8).toNat, by omega⟩
    rw [hr8] at H4 r0 r1
    obtain ⟨q1, q2⟩ := gq_tab r (by omega)
    have q1' := Lib.hid q1
    have hq := fun (w : World) => run32 q1 rfl w 35
    have HPL := Lib.hid (places_is A c z w (by omega) hz hr)
    have HDI := Lib.hid (fun (w2 : World) (g : w.grownBy w2 none) => direction_is A' d y w2 (by omega) hzy ((hry.kept0 g (Nat.le_refl _)).mono g.size))
    obtain ⟨s, hs⟩ : ∃ s, 65536 * a + b = s := ⟨_, rfl⟩
    have s0 : 0 ≤ s := by omega
    have s1 : s ≤ 16777216 := by omega
    clear hr hry hr8 HR q1
    go_enter Try.func4, Try.ntmps4
    go_wp2_with fail
    refine (long_no _ _ _ _ _ _ _ hl.1 hl.2).mono ?_
    rintro e w' ⟨rfl, rfl⟩
    go_wp2_with fail
    refine HPL.out.mono ?_
    rintro e w1 ⟨ps, A1, c1, hv, rfl, ho1, g1⟩
    have R1 := Lib.hid (Rd.of_lst ho1 rfl)
    have hl16 := vp_yes hv
    have hn1 := hl16.1
    have hn2 := hl16.2.1
    have HD1 := Lib.hid (HDI.out w1 g1)
    clear ho1 HPL HDI hl16
    go_wp2_with fail
    refine HD1.out.mono ?_
    rintro e w2 ⟨u, v, hu, hv', rfl, g2⟩
    have hd := dir45 hu hv'
    have ga := World.grownBy_alloc w2 (.cells #[.int .i64 u, .int .i64 v] 33) none
    have da := Dx.new w2 u v
    have g03 := (g1.trans g2).trans ga
    have R3 := (R1.out.kept0 (g2.trans ga) (Nat.le_refl _)).mono (g2.trans ga).size
    obtain ⟨w3, hw3⟩ : ∃ w3, w2.alloc (.cells #[.int .i64 u, .int .i64 v] 33) = w3 := ⟨_, rfl⟩
    rw [hw3] at da R3 g03
    generalize hB : w2.heap.size = hb at *
    have HW3 := Lib.hid hw3
    have HS3 := Lib.hid (And.intro da (And.intro R3 g03))
    have H1a := Lib.hid (H1.out w3 g03)
    clear HD1 R1 g1 g2 hw3 ga da R3 g03 H1 hu hv'
    go_wp2_with fail
    rw [HW3.out]
    refine H1a.out.mono ?_
    rintro e w' ⟨rfl, rfl⟩
    have H2a := Lib.hid (H2.out w3 HS3.out.2.2)
    clear H1a H2
    go_wp2_with fail
    refine H2a.out.mono ?_
    rintro e w' ⟨rfl, rfl⟩
    have H3a := Lib.hid (H3.out w3 HS3.out.2.2)
    clear H2a H3
    go_wp2_with fail
    refine H3a.out.mono ?_
    rintro e w' ⟨rfl, rfl⟩
    have H4a := Lib.hid (H4.out w3 HS3.out.2.2)
    clear H3a H4
    go_wp2_with fail
    refine H4a.out.mono ?_
    rintro e w' ⟨rfl, rfl⟩
    clear H4a
    obtain ⟨da, R3, g03⟩ := HS3.out
    obtain ⟨dc0, dc1, _, _⟩ := da.facts
    clear HS3 HW3
    go_wp2_with fail
    have hs31 : 0 ≤ s ∧ s ≤ 2147483647 := by omega
    have gs := World.grownBy_alloc w3 (.cells #[.int .i64 u, .int .i64 v, .float .f32 (gq r), .int .i64 s] 37) none
    have RS := src_rd w3 u v (gq r) s
    have g04 := g03.trans gs
    have R4 := (R3.kept0 gs (Nat.le_refl _)).mono gs.size
    have e0 := gs.cell dc0 (by simp)
    have e1 := gs.cell dc1 (by simp)
    generalize hw4 : w3.alloc (.cells #[.int .i64 u, .int .i64 v, .float .f32 (gq r), .int .i64 s] 37) = w4 at *
    have HSY := Lib.hid (fun w => sym_i s f w (by omega) (by omega) (by omega) (by omega))
    have HS0 := Lib.hid (fun (wx : World) (g : w4.grownBy wx none) => snap_i ps [(u, v, gq r, s)] 0 s f A1 (some ⟨w3.heap.size, 0, none⟩) c1 1 wx.heap.size wx (by omega) (by simp) ((R4.kept0 g (Nat.le_refl _)).mono g.size) ((RS.kept0 g (Nat.le_refl _)).mono g.size) (Nat.le_refl _))
    rw [src_so hv hd hs31 (by omega), if_pos rfl] at HS0
    have HST := Lib.hid (fun (wx : World) (g : w4.grownBy wx none) => steering2.impl_c ps u v A1 c1 wx.heap.size wx (by omega) ((R4.kept0 g (Nat.le_refl _)).mono g.size) (Nat.le_refl _))
    rw [show steering2.steR ps u v = (stl ps u v, true) from if_pos ⟨hv, hd⟩] at HST
    rw [stl_len] at HST
    have HSS := Lib.hid (fun (wx : World) (g : w4.grownBy wx none) => snaps_i ps [(u, v, gq r, s)] 1048576000 s f 3 (by have := src_so (g := gq r) hv hd hs31 (i := 0) (by omega); unfold soOk at this; exact (Bool.and_eq_true_iff.1 this).1) (by omega) (by omega) (by omega) (by omega) A1 (some ⟨w3.heap.size, 0, none⟩) c1 1 wx.heap.size wx (by omega) (by simp) ((R4.kept0 g (Nat.le_refl _)).mono g.size) ((RS.kept0 g (Nat.le_refl _)).mono g.size) (Nat.le_refl _))
    have HS2 := Lib.hid (fun (wx : World) (g : w4.grownBy wx none) => snap_i ps [(u, v, gq r, s)] 1048576000 s (f + 2) A1 (some ⟨w3.heap.size, 0, none⟩) c1 1 wx.heap.size wx (by omega) (by simp) ((R4.kept0 g (Nat.le_refl _)).mono g.size) ((RS.kept0 g (Nat.le_refl _)).mono g.size) (Nat.le_refl _))
    rw [src_so hv hd hs31 (by omega), if_pos rfl] at HS2
    have HNX := Lib.hid (fun wx : World => next_i s wx)
    rw [if_pos hs31, decide_eq_true hs31] at HNX
    have HVS := Lib.hid (fun (wx : World) (g : w4.grownBy wx none) => srcs_impl (some ⟨w3.heap.size, 0, none⟩) 1 wx.heap.size [(u, v, gq r, s)] wx (by simp) ((RS.kept0 g (Nat.le_refl _)).mono g.size) (Nat.le_refl _))
    rw [src_vs hd hs31] at HVS
    have HPO := Lib.hid (fun wx : World => powerOf_c (pow_half (dr s (2 * f) / 16384) (dr s (2 * f) / 8192)).2 (by omega) wx)
    rw [(pow_half (dr s (2 * f) / 16384) (dr s (2 * f) / 8192)).1] at HPO
    have HNS := Lib.hid (fun wx : World => near_sym _ _ (sy_or (dr s (2 * f) / 16384)) (sy_or (dr s (2 * f) / 8192)) wx)
    have HCW := Lib.hid (fun (p q n : Nat) (ad : Addr) (c : Nat) (wx : World) h1 h2 => count_one s f p q n ad c wx (by omega) (by omega) (by omega) (by omega) h1 h2)
    have HE1 := Lib.hid (sy_eq (dr s (2 * f) / 16384))
    have HE2 := Lib.hid (sy_eq (dr s (2 * f) / 8192))
    have HE3 := Lib.hid (sy_ne (dr s (2 * f) / 16384))
    have HSC := Lib.hid (fun (wx : World) => show Calls Try.prog 33 #[.complex .f32 (sy (dr s (2 * f) / 16384)) (sy (dr s (2 * f) / 8192)), .float .f32 (gq r)] wx (fun e w' => e = .returned (.complex .f32 (sent s f (gq r)).1 (sent s f (gq r)).2) ∧ wx = w') from scale_q (sg_is _ r (by omega)) (sg_is _ r (by omega)) wx)
    have HSX := Lib.hid (sx_bd s)
    have HNUM := Lib.hid (fun (k : Nat) (hk : k < ps.length) => And.intro (so_one ps u v (gq r) s f 0 k hk) (one_q (s := s) (f := f) (r := r) (n := ps[k].1 * u + ps[k].2 * v) (d1 := dr s (2 * (16 * f + (k : Int) + 1000000))) (d2 := dr s (2 * (16 * f + (k : Int) + 1000000) + 1)) (by omega) (at_bd hv hd k hk) (dr_bd _ _) (dr_bd _ _)))
    have HTWO := Lib.hid (fun (k : Nat) (hk : k < ps.length) => And.intro (so_one ps u v (gq r) s (f + 2) 1048576000 k hk) (two_is (s := s) (f := f + 2) (r := r) (n := ps[k].1 * u + ps[k].2 * v) (d1 := dr s (2 * (16 * (f + 2) + (k : Int) + 1000000))) (d2 := dr s (2 * (16 * (f + 2) + (k : Int) + 1000000) + 1)) (by omega) (at_bd hv hd k hk) (dr_bd _ _) (dr_bd _ _)))
    have HNO := Lib.hid (fun (k : Nat) (hk : k < ps.length) (wx : World) => noise_i s (f + 2) (k : Int) 1048576000 wx (by omega) (by omega) (by omega) (by omega) (by omega) (by omega))
    have HPH := Lib.hid (fun (k : Nat) (hk : k < ps.length) => stl_at ps u v k hk)
    clear hq hs q1'
    refine (HSY.out _).mono ?_
    rintro e w' ⟨rfl, rfl⟩
    go_wp2_with fail
    refine (HS0.out _ (World.grownBy.refl _ _)).mono ?_
    rintro e w5 ⟨A5, c5, l0, rfl, hc0, ho5, g5⟩
    have d5 := g5.cell e0 (by simp)
    have d5' := g5.cell e1 (by simp)
    have HC0 := Lib.hid hc0
    have R5 := Lib.hid (Rd.of_lst ho5 (Nat.mul_one _).symm)
    have HST1 := Lib.hid (HST.out w5 g5)
    rw [show ((3 : Nat) : Int) = 3 from rfl] at HSS
    clear hc0 ho5 HST HS0 HSY
    generalize sy (dr s (2 * f) / 16384) = X1 at *
    generalize sy (dr s (2 * f) / 8192) = X2 at *
    go_wp2_with fail
    refine HST1.out.mono ?_
    rintro e w6 ⟨A6, c6, rfl, ho6, g6⟩
    have R6 := Lib.hid (Rd.of_lst ho6 (Nat.mul_one _).symm)
    have g56 := g5.trans g6
    have HSS1 := Lib.hid (HSS.out w6 g56)
    clear ho6 HST1 HSS d5 d5'
    go_wp2_with fail
    refine HSS1.out.mono ?_
    rintro e w7 ⟨O7, d7, a7, c7, l7, rfl, hc7, hO7, g7⟩
    obtain ⟨gO, rfl, _⟩ := own_addr hO7.outer (by omega)
    have R7 := Lib.hid hO7.rd
    have HC7 := Lib.hid (hc7 2 (by omega))
    have g57 := g56.trans g7
    have HS21 := Lib.hid (HS2.out w7 g57)
    clear hc7 hO7 HSS1 HS2
    go_wp2_with fail
    refine HS21.out.mono ?_
    rintro e w8 ⟨A8, c8, l8, rfl, hc8, ho8, g8⟩
    have R8 := Lib.hid (Rd.of_lst ho8 (Nat.mul_one _).symm)
    have HC8 := Lib.hid hc8
    have g58 := g57.trans g8
    clear hc8 ho8 HS21
    go_wp2_with fail
    refine (HNX.out _).mono ?_
    rintro e w' ⟨rfl, rfl⟩
    have HVS1 := Lib.hid (HVS.out w8 g58)
    have sx0 := HSX.out.1
    have sx1 := HSX.out.2
    clear HNX HVS HSX
    generalize seeds.sx s = nx at *
    go_wp2_with fail
    refine HVS1.out.mono ?_
    rintro e w9 ⟨rfl, g9⟩
    go_wp2_with fail
    refine (HPO.out _).mono ?_
    rintro e w' ⟨rfl, rfl⟩
    have hhalf : (FloatKind.f32.format.order 1056964608 1056964608 != some .eq) = false := by decide +kernel
    have G8 := g9
    have G7 := g8.trans G8
    have G6 := g7.trans G7
    have G5 := g6.trans G6
    have HG9 := Lib.hid (g04.trans (g5.trans G5))
    obtain ⟨ad5, rfl, _, _⟩ := R5.out.at_ hn1
    obtain ⟨ad6, rfl, _, _⟩ := R6.out.at_ hn1
    obtain ⟨ad8, rfl, _, _⟩ := R8.out.at_ hn1
    have HA5 := Lib.hid (fun (wx : World) (g : w9.grownBy wx none) (j : Nat) (hj : j < ps.length) => show wx.cell? (ad5.add j) = some (.complex .f32 (l0.getD j (0, 0)).1 (l0.getD j (0, 0)).2) by
      obtain ⟨ad, e, _, h⟩ := (R5.out.kept0 (G5.trans g) (Nat.le_refl _)).at_ hj
      injection e with e; subst e; exact h)
    have HA6 := Lib.hid (fun (wx : World) (g : w9.grownBy wx none) (j : Nat) (hj : j < ps.length) => show wx.cell? (ad6.add j) = some (.complex .f32 (phz (ps[j].1 * u + ps[j].2 * v)).1 (phz (ps[j].1 * u + ps[j].2 * v)).2) by
      obtain ⟨ad, e, _, h⟩ := (R6.out.kept0 (G6.trans g) (Nat.le_refl _)).at_ hj
      injection e with e; subst e
      unfold ccell at h
      rw [HPH.out j hj] at h
      exact h)
    have HA7 := Lib.hid (fun (wx : World) (g : w9.grownBy wx none) (j : Nat) (hj : j < ps.length) => show wx.cell? ⟨gO, 2, none⟩ = some (.slice (some ⟨a7 2, 0, none⟩) ps.length (c7 2)) ∧ wx.cell? ⟨a7 2, j, none⟩ = some (.complex .f32 ((l7 2).getD j (0, 0)).1 ((l7 2).getD j (0, 0)).2) by
      obtain ⟨ad, e, _, h⟩ := (R7.out.1.kept0 (G7.trans g) (Nat.le_refl _)).at_ (show 2 < 3 by omega)
      injection e with e; subst e
      rw [slc.add_plain, Nat.zero_add] at h
      obtain ⟨ae, e2, _, h2⟩ := ((R7.out.2 2 (by omega)).kept0 (G7.trans g) (Nat.le_refl _)).at_ hj
      injection e2 with e2; subst e2
      rw [slc.add_plain, Nat.zero_add] at h2
      exact ⟨h, h2⟩)
    have HA8 := Lib.hid (fun (wx : World) (g : w9.grownBy wx none) (j : Nat) (hj : j < ps.length) => show wx.cell? (ad8.add j) = some (.complex .f32 (l8.getD j (0, 0)).1 (l8.getD j (0, 0)).2) by
      obtain ⟨ad, e, _, h⟩ := (R8.out.kept0 (G8.trans g) (Nat.le_refl _)).at_ hj
      injection e with e; subst e; exact h)
    have HQ7 := Lib.hid (fun (j : Nat) (hj : j < ps.length) => show ∃ X Y : Nat, (X : Int) ≤ 4294967295 ∧ (Y : Int) ≤ 4294967295 ∧ FinW single X ∧ FinW single Y ∧ ((l7 2).getD j (0, 0)).1 = X ∧ ((l7 2).getD j (0, 0)).2 = Y ∧ (l8.getD j (0, 0)).1 = X ∧ (l8.getD j (0, 0)).2 = Y by
      obtain ⟨e1, X, Y, b1, b2, q1, q2, h1, h2⟩ := HTWO.out j hj
      have k7 := HC7.out.2 j hj
      have k8 := HC8.out.2 j hj
      rw [show ((2 : Nat) : Int) = 2 from rfl, e1] at k7
      rw [e1] at k8
      exact ⟨X, Y, b1, b2, q1, q2, h1 _ k7.1, h2 _ k7.2, h1 _ k8.1, h2 _ k8.2⟩)
    have HQ5 := Lib.hid (fun (j : Nat) (hj : j < ps.length) => HC0.out.2 j hj)
    clear R5 R6 R7 R8 HC7 HC8 HTWO HC0 G5 G6 G7 G8 g5 g6 g7 g8 g9 g56 g57 g58 g04 R4 RS gs hw4 hs31 dc0 dc1 da R3 g03 e0 e1 HVS1 HPH q2 hd hv hB a0 a1 b0 b1
    go_wp2_with fail
    go_loopw [23] (fun iv wq => ∃ k : Nat, k ≤ ps.length ∧ iv = .int .i64 k ∧ w9.grownBy wq none) (fun iv _ => (100 - intOf iv).toNat)
    case atStart => exact ⟨0, Nat.zero_le _, rfl, World.grownBy.refl _ _⟩
    case round =>
      obtain ⟨k, hk, rfl, hg⟩ := hrel
      by_cases hlt : k < ps.length
      · have HNK := Lib.hid (HNO.out k hlt wr)
        have k0 : (0 : Int) ≤ (k : Int) := by omega
        have k1 : (k : Int) < (ps.length : Int) := by omega
        go_wp2_with fail
        refine HNK.out.mono ?_
        rintro e wn ⟨n1, n2, rfl, hn1', hn2', gn⟩
        have nb1 := quart_gt (a := n1) (by rw [can_back hn1' (nz_quart _ (dr_bd _ _)).1]; exact nz_quart _ (dr_bd _ _))
        have nb2 := quart_gt (a := n2) (by rw [can_back hn2' (nz_quart _ (dr_bd _ _)).1]; exact nz_quart _ (dr_bd _ _))
        obtain ⟨nb1a, nb1b⟩ := nb1
        obtain ⟨nb2a, nb2b⟩ := nb2
        have gN := hg.trans gn
        have z6 := HA6.out wn gN k hlt
        have HON := Lib.hid (HNUM.out k hlt)
        have HL5 := Lib.hid (HQ5.out k hlt)
        have HGN := Lib.hid gN
        have ho := HL5.out
        rw [HON.out.1] at ho
        have hp := HON.out.2.2 _ _ ho.1 ho.2
        have HMM := Lib.hid (fun wx => polyW.mul_impl HON.out.2.1 wx)
        have p1 := hp.1
        have p2 := hp.2
        clear HNK hn1' hn2' gn hg gN ho hp
        generalize hnk : ps[k].1 * u + ps[k].2 * v = nk at *
        clear HON HL5 hnk
        generalize sent s f (gq r) = se at *
        generalize mulw se (phz nk) = mo at *
        generalize phz nk = ph at *
        have y5 := HA5.out wn HGN.out k hlt
        obtain ⟨y7, y7'⟩ := HA7.out wn HGN.out k hlt
        have y8 := HA8.out wn HGN.out k hlt
        obtain ⟨X, Y, bx, by', fx, fy, e1, e2, e3, e4⟩ := HQ7.out k hlt
        rw [e1, e2] at y7'
        rw [e3, e4] at y8
        clear e1 e2 e3 e4 HQ7
        generalize (l0.getD k (0, 0)).1 = L1 at *
        generalize (l0.getD k (0, 0)).2 = L2 at *
        go_wp2_with fail
        go_quiet (first
          | (go_at_call 33; refine Calls.quiet_of_same ((HSC.out _).mono (fun e w' h => ⟨h.1, h.2.symm⟩)))
          | (go_at_call 32; refine Calls.quiet_of_same ((HMM.out _).mono (fun e w' h => ⟨h.1, h.2.symm⟩))))
        have gB : w9.grownBy (wn.drewN nq) none := HGN.out.trans (gb_drewN wn nq none)
        have b5 : (wn.drewN nq).cell? (ad5.add k) = some (.complex .f32 L1 L2) := y5
        have b7 : (wn.drewN nq).cell? ⟨gO, 2, none⟩ = some (.slice (some ⟨a7 2, 0, none⟩) ps.length (c7 2)) := y7
        have b7' : (wn.drewN nq).cell? ⟨a7 2, k, none⟩ = some (.complex .f32 X Y) := y7'
        have b8 : (wn.drewN nq).cell? (ad8.add k) = some (.complex .f32 X Y) := y8
        generalize wn.drewN nq = wb at *
        have HGB := Lib.hid gB
        clear y5 y7 y7' y8 z6 HMM HGN gB
        go_wp2_with fail
        go_quiet (first | (go_at_call 34; refine Calls.quiet_of_same ((sameQ.same_q X Y _ bx by' fx fy).mono (fun e w' h => ⟨h.1, h.2.symm⟩))))
        go_wp2_with fail
        go_roundw
        case rel => exact ⟨k + 1, by omega, by go_num, HGB.out.trans (gb_drewN wb _ none)⟩
        case measure => simp [intOf]; omega
      · obtain rfl : ps.length = k := by omega
        have HG10 := Lib.hid (HG9.out.trans hg)
        have HGA := Lib.hid (World.grownBy_alloc wr (.cells #[.complex .f32 X1 X2] 39) none)
        have HCA := Lib.hid (show (wr.alloc (.cells #[.complex .f32 X1 X2] 39)).cell? ⟨wr.heap.size, 0, none⟩ = some (.complex .f32 X1 X2) from cell_of_row _ _ 0 _ _ _ (heap_alloc_new wr _))
        clear HG9 hg HA5 HA6 HA7 HA8 HNUM HNO HSC HPO HQ5 HQ7
        go_wp2_with fail
        refine (HCW.out X1 X2 0 ⟨wr.heap.size, 0, none⟩ 1 _ (.inl ⟨rfl, HE1.out, HE2.out⟩) HCA.out).mono ?_
        rintro e w' ⟨rfl, rfl⟩
        have HG11 := Lib.hid (HG10.out.trans HGA.out)
        clear HCA HGA HG10
        generalize wr.alloc (.cells #[.complex .f32 X1 X2] 39) = wA at *
        have HGB := Lib.hid (World.grownBy_alloc wA (.cells #[.complex .f32 (Op.negFloat .f32 X1) (Op.negFloat .f32 X2)] 39) none)
        have HCB := Lib.hid (show (wA.alloc (.cells #[.complex .f32 (Op.negFloat .f32 X1) (Op.negFloat .f32 X2)] 39)).cell? ⟨wA.heap.size, 0, none⟩ = some (.complex .f32 (Op.negFloat .f32 X1) (Op.negFloat .f32 X2)) from cell_of_row _ _ 0 _ _ _ (heap_alloc_new wA _))
        go_wp2_with fail
        refine (HCW.out _ _ 1 ⟨wA.heap.size, 0, none⟩ 1 _ (.inr ⟨rfl, HE3.out⟩) HCB.out).mono ?_
        rintro e w' ⟨rfl, rfl⟩
        have HG12 := Lib.hid (HG11.out.trans HGB.out)
        clear HCB HGB HG11 HCW
        generalize wA.alloc (.cells #[.complex .f32 (Op.negFloat .f32 X1) (Op.negFloat .f32 X2)] 39) = wB at *
        have E1 := HE1.out
        have E2 := HE2.out
        go_wp2_with fail
        refine (HNS.out _).mono ?_
        rintro e w' ⟨rfl, rfl⟩
        go_wp2_with fail
        go_ret
        exact ⟨rfl, gb_below HG12.out⟩
  · have hl' : 48 < z.length ∨ 48 < y.length := by omega
    go_enter Try.func4, Try.ntmps4
    go_wp2_with fail
    refine (long_yes _ _ _ _ _ _ _ hl' hm hy).mono ?_
    rintro e w' ⟨rfl, rfl⟩
    go_wp2_with fail
    go_ret
    exact ⟨rfl, Below.refl _ _⟩

theorem walk (a0 : Option Addr) (len0 cap0 : Nat) (z0 : List Int) (a1 : Option Addr) (len1 cap1 : Nat) (z1 : List Int) (w : World) (l0 : z0.length = len0) (m0 : len0 ≤ maxLen) (w0 : ∀ x ∈ z0, (Lit.int .u8 x).wf = true) (r0 : Rd w w.heap.size a0 len0 (fun j => .int .u8 (z0.getD j 0)))
    (l1 : z1.length = len1) (m1 : len1 ≤ maxLen) (w1 : ∀ x ∈ z1, (Lit.int .u8 x).wf = true) (r1 : Rd w w.heap.size a1 len1 (fun j => .int .u8 (z1.getD j 0))) :
    Calls Try.prog 4 #[.slice a0 len0 cap0, .slice a1 len1 cap1] w fun e w' => e = .returned (.bool true) ∧ Below w.heap.size w w' := by
  subst l0 l1
  unfold maxLen at m0 m1
  exact law a0 a1 cap0 cap1 z0 z1 w (Byt.of w0) (Byt.of w1) (by omega) (by omega) r0 r1

set_option maxRecDepth 100000 in
theorem lifted (os : Os) (started : os.Started) (H : Type) (enc : TypeId × Value → H) :
    ReturnsInHanded {} Try.checked os 4 .any (Rows.fnSnapshotsSpec.pre6 enc Try.prog Try.f4 Rows.fnSnapshotsRow.domain false) (Rows.fnSnapshotsSpec.post enc Try.prog Try.f4 false true false false) := by
  refine returnsInHanded_of_change (C := Try.checked) own started (by kernel_rfl) Try.func4
    (ChangeSpec.witness6 (enc := enc) (C := Try.checked) false ⟨#[], #[.slice none 0 0, .slice none 0 0], []⟩ 8 (by kernel_rfl) (by kernel_rfl) (by kernel_rfl) (by kernel_rfl)) ?_
  intro W base args ds gs before hval0 hW hcnd _
  have hval : ∀ (j : Nat) t v, Try.f4.params[j]? = some t → args[j]? = some v → Value.okWide Try.prog W .any base t v := hval0
  have hW' := hW
  obtain ⟨p, q, hA0, hV, rfl, hfz, hnd⟩ := hW
  have hA : DataW.TrodAll enc Try.prog W 0 (fun _ => true) true Try.f4.params.toList args.toList ds p := hA0
  rw [Try.params4] at hA hval
  obtain ⟨v0, vs0, d0, ds0, p0, q0, hargs, rfl, rfl, h0, r0⟩ := trodAll_cons hA
  obtain ⟨v1, vs1, d1, ds1, p1, q1, rfl, rfl, rfl, h1, r1⟩ := trodAll_cons r0
  obtain ⟨rfl, rfl, rfl⟩ := trodAll_nil r1
  obtain rfl : args = #[v0, v1] := by cases args; simp_all
  obtain ⟨rfl, rfl⟩ := trodVars_none hV
  obtain ⟨a0, len0, cap0, rfl⟩ := okWide_slice Try.underlying22 (hval 0 22 v0 rfl rfl)
  have k0 := h0
  have lt0 : ∀ x ∈ p0, x.block < W.heap.size := by obtain ⟨m, hm⟩ := k0; exact DataW.trod_lt m _ _ _ hm
  obtain ⟨z0, l0, m0, w0, r0'⟩ := opened_ints Try.underlying22 Try.underlying5 (by kernel_rfl) k0
  obtain ⟨a1, len1, cap1, rfl⟩ := okWide_slice Try.underlying22 (hval 1 22 v1 rfl rfl)
  have k1 := h1
  have lt1 : ∀ x ∈ p1, x.block < W.heap.size := by obtain ⟨m, hm⟩ := k1; exact DataW.trod_lt m _ _ _ hm
  obtain ⟨z1, l1, m1, w1, r1'⟩ := opened_ints Try.underlying22 Try.underlying5 (by kernel_rfl) k1
  clear hA0 hval0
  refine (walk a0 len0 cap0 z0 a1 len1 cap1 z1 W l0 m0 w0 r0' l1 m1 w1 r1').mono fun e W' ⟨he, bel⟩ => ?_
  subst he
  exact ⟨_, rfl, _, _, _, [], _, [], hW', trodAll_mk1 (shut_bool Try.underlying4 _), (trodAll_cons_mk (Below.trod laidOut (by kernel_rfl) (of_decide_eq_true (by kernel_rfl)) k0 bel lt0) (trodAll_cons_mk (Below.trod laidOut (by kernel_rfl) (of_decide_eq_true (by kernel_rfl)) k1 bel lt1) trodAll_mk0)), rfl, bel.frame _, fun h => by cases h⟩

set_option maxHeartbeats 8000000 in
theorem over : Rows.fnSnapshotsRow.holds Try.pinned (OpenSpec.ofChange Rows.fnSnapshotsSpec) :=
  OpenClaim.holds_of_wide 4 Try.f4 rfl rfl rfl rfl rfl rfl rfl ⟨rfl, rfl, rfl, rfl, rfl⟩ rfl rfl rfl rfl rfl (by as_aux_lemma => kernel_rfl) Try.func4 (by as_aux_lemma => kernel_rfl)
    (of_decide_eq_true (by as_aux_lemma => kernel_rfl)) (by unfold Func.isWrapper; first | (rw [if_pos (by decide +kernel)]; kernel_rfl) | (rw [if_neg (by decide +kernel)]; exact ⟨rfl, rfl⟩))
    (fun os started H enc _ => lifted os started H enc)

theorem proved : Rows.FnSnapshotsSaid := over
#print axioms proved
end Go.Proofs.Ytpmjheofjmdfeaa.fnSnapshots
