/- Grids have their rows, boxes have all places, no two places are nearer than told, and rings have nearly their radius: the law answers true at every input. No condition. -/
import Derived.Test.YtdanlghaiekeaaaRows
import Derived.Test.YtdanlghaiekeaaaSlc
import Derived.Test.YtdanlghaiekeaaaSmall
import Derived.Test.YtdanlghaiekeaaaOpens
import Derived.Test.YtdanlghaiekeaaaPlaces
import Derived.Test.YtdanlghaiekeaaaPlaceSet
import Derived.Test.YtdanlghaiekeaaaListP
import Derived.Test.YtdanlghaiekeaaaGrid
import Derived.Test.YtdanlghaiekeaaaBox
import Derived.Test.YtdanlghaiekeaaaBox2
import Derived.Test.YtdanlghaiekeaaaLeast
import Derived.Test.YtdanlghaiekeaaaLeast2
import Derived.Test.YtdanlghaiekeaaaShapeNum
import Derived.Test.YtdanlghaiekeaaaGive
import Derived.Test.YtdanlghaiekeaaaFloats
import Derived.Test.YtdanlghaiekeaaaRound
import Derived.Test.YtdanlghaiekeaaaValues
import Derived.Test.YtdanlghaiekeaaaConv
import Derived.Test.YtdanlghaiekeaaaFWalk
import Derived.Test.YtdanlghaiekeaaaFinWalk
import Derived.Test.YtdanlghaiekeaaaFloat2
import Derived.Test.YtdanlghaiekeaaaFloat3
import Derived.Test.YtdanlghaiekeaaaPhase
import Derived.Test.YtdanlghaiekeaaaSine
import Derived.Test.YtdanlghaiekeaaaPhasor
import Derived.Test.YtdanlghaiekeaaaListC
import Derived.Test.YtdanlghaiekeaaaSteerNum
import Derived.Test.YtdanlghaiekeaaaRingNum
import Derived.Test.YtdanlghaiekeaaaRing
import Derived.Test.YtdanlghaiekeaaaSineIn
import Derived.Test.YtdanlghaiekeaaaPolyNum
import Derived.Test.YtdanlghaiekeaaaGPoly
import Derived.Test.YtdanlghaiekeaaaGNum
import Derived.Test.YtdanlghaiekeaaaRingTab
import Derived.Test.YtdanlghaiekeaaaRingBd
import Derived.Test.YtdanlghaiekeaaaGap
import Derived.Test.YtdanlghaiekeaaaR8
import Derived.Test.YtdanlghaiekeaaaSrc
import Derived.Test.YtdanlghaiekeaaaPolyW
import Derived.Test.YtdanlghaiekeaaaPoly1
import Derived.Test.YtdanlghaiekeaaaSrcW
import Derived.Test.YtdanlghaiekeaaaDrawOk
import Derived.Test.YtdanlghaiekeaaaDrawR8
import Derived.WalkKit
import Derived.ProofKit
import Derived.OpenShut
import Derived.ShutString
import Derived.ChangeOld
import Derived.Below
import Derived.Lib.Hide
import Derived.BigQuiet
import Derived.Deep.QuietTactic
import Derived.WalkLawsBesides
import Derived.Outline
import Derived.Deep.LoopGhost
import Derived.Deep.QuietTactic
import Derived.BigQuiet
namespace Go.Proofs.Ytdanlghaiekeaaa.fnShapes
open Go.ChangeShapes Go.WideShapes Go.ChangeAt Go.RowKit
open Go.ChangeMaps (open_string shut_string)
set_option linter.unusedVariables false
theorem own : ownKnob Try.prog.godebug = none := by kernel_rfl
theorem laidOut : laidOutB Try.prog = true := by kernel_rfl
open Go Ieee Go.RowKit
open Go.Proofs.Ytdanlghaiekeaaa.slc Go.Proofs.Ytdanlghaiekeaaa.small Go.Proofs.Ytdanlghaiekeaaa.opens Go.Proofs.Ytdanlghaiekeaaa.places Go.Proofs.Ytdanlghaiekeaaa.listP Go.Proofs.Ytdanlghaiekeaaa.grid Go.Proofs.Ytdanlghaiekeaaa.box Go.Proofs.Ytdanlghaiekeaaa.box2 Go.Proofs.Ytdanlghaiekeaaa.least Go.Proofs.Ytdanlghaiekeaaa.least2 Go.Proofs.Ytdanlghaiekeaaa.shapeNum Go.Proofs.Ytdanlghaiekeaaa.values Go.Proofs.Ytdanlghaiekeaaa.float3 Go.Proofs.Ytdanlghaiekeaaa.phase Go.Proofs.Ytdanlghaiekeaaa.sine Go.Proofs.Ytdanlghaiekeaaa.steerNum Go.Proofs.Ytdanlghaiekeaaa.ringNum Go.Proofs.Ytdanlghaiekeaaa.ring Go.Proofs.Ytdanlghaiekeaaa.polyNum Go.Proofs.Ytdanlghaiekeaaa.gNum Go.Proofs.Ytdanlghaiekeaaa.ringBd Go.Proofs.Ytdanlghaiekeaaa.gap Go.Proofs.Ytdanlghaiekeaaa.r8 Go.Proofs.Ytdanlghaiekeaaa.drawR8

theorem run_ne_place (w : World) (x y a b : Int) : (binOp .neq 49 (.agg #[.int .i64 x, .int .i64 y]) (.agg #[.int .i64 a, .int .i64 b])).run Try.prog w = .ok (.bool (!(x == a && y == b))) w := by
  have e : ∀ w : World, (Op.equalIn 10000 49 (.agg #[.int .i64 x, .int .i64 y]) (.agg #[.int .i64 a, .int .i64 b])).run Try.prog w = .ok (x == a && y == b) w := by
    intro w
    rw [run_equalIn_agg (P := Try.prog) w 9999 49 _ _ (by kernel_rfl) (by kernel_rfl)]
    simp only [Program.fieldsOf, Try.underlying49]
    simp [Op.eqFields, go_sem, Try.underlying2, part]
    by_cases h1 : x = a <;> by_cases h2 : y = b <;> simp [h1, h2]
  rw [run_neq_struct, e]
  rfl
theorem build_place (w : World) (x y : Int) : (Instr.build 49 #[(0, .int .i64 x), (1, .int .i64 y)]).run Try.prog w = .ok (.agg #[.int .i64 x, .int .i64 y]) w := run_build w 49 _ _ (by kernel_rfl)
theorem build_place1 (w : World) (x : Int) : (Instr.build 49 #[(0, .int .i64 x)]).run Try.prog w = .ok (.agg #[.int .i64 x, .int .i64 0]) w := run_build w 49 _ _ (by kernel_rfl)
theorem build_place0 (w : World) : (Instr.build 49 #[]).run Try.prog w = .ok (.agg #[.int .i64 0, .int .i64 0]) w := run_build w 49 _ _ (by kernel_rfl)
theorem cvi6464 (w : World) (n : Int) : (convert 2 43 (.int .i64 n)).run Try.prog w = .ok (.float .f64 (floatOfInt .f64 n)) w :=
  run_convert_int_float w _ _ .i64 .f64 n (by rw [Try.underlying2]; rfl) Try.underlying43
theorem at_nat (z : List Int) (hz : Byt z) (k : Int) (n : Nat) (h : 2 ≤ n) (m : Nat) : ∃ t : Nat, (m : Int) + r8 z k n = t ∧ m ≤ t ∧ t ≤ m + (n - 1) := by
  obtain ⟨h1, h2⟩ := r8_bd hz k n (by omega)
  exact ⟨((m : Int) + r8 z k n).toNat, by omega, by omega, by omega⟩

theorem three_s : S64 4613937818241073152 3 := ⟨by unfold values.FinW; decide +kernel, by
  have : V double 4613937818241073152 = 3 * (4 * (q64 : Int)) := by decide +kernel
  rw [this, pc, ← four_q]
  simp⟩
theorem gt_s {x y : Nat} {a b : Int} (hx : S64 x a) (hy : S64 y b) (h : a ≤ b) : (FloatKind.f64.format.order x y == some .gt) = false :=
  gt_no hx.1 hy.1 (by rw [hx.2, hy.2]; exact Int.mul_le_mul_of_nonneg_right h (Int.le_of_lt pos64))
theorem ring_small {X Y : Int} {r : Nat} (h : (X * X + Y * Y - (r : Int) * r).natAbs ≤ 3 * (r : Int).natAbs) (h1 : 64 ≤ r) (h2 : r ≤ 263) : 0 ≤ X * X ∧ X * X ≤ 70000 ∧ 0 ≤ Y * Y ∧ Y * Y ≤ 70000 ∧ 0 ≤ X * X + Y * Y ∧ X * X + Y * Y ≤ 70000 := by
  have sqn : ∀ Z : Int, 0 ≤ Z * Z := fun Z => by
    have e : Z * Z = ((Z.natAbs * Z.natAbs : Nat) : Int) := by simp
    omega
  have a := sqn X
  have b := sqn Y
  have c := Int.mul_le_mul (a := (r : Int)) (b := (r : Int)) (c := 263) (d := 263) (by omega) (by omega) (by omega) (by omega)
  omega

attribute [local go_sem] run_ne_place run_eq_place build_place build_place1 build_place0 cvi6464
set_option maxHeartbeats 8000000 in
set_option maxRecDepth 100000 in
theorem law (A A' : Option Addr) (c d : Nat) (z y : List Int) (w : World) (hz : Byt z) (hzy : Byt y) (hm : z.length ≤ 9223372036854775807) (hy : y.length ≤ 9223372036854775807) (hr : Rd w w.heap.size A z.length (bt z)) (hry : Rd w w.heap.size A' y.length (bt y)) :
    Calls Try.prog 5 #[.slice A z.length c, .slice A' y.length d] w fun e w' => e = .returned (.bool true) ∧ Below w.heap.size w w' := by
  by_cases hl : z.length ≤ 48 ∧ y.length ≤ 48
  · have H0 := fun w hr => r8_at A c w.heap.size z 0 4 w (by omega) (by decide) (by decide) hz hr
    have H1 := fun w hr => r8_at A c w.heap.size z 1 4 w (by omega) (by decide) (by decide) hz hr
    have H2 := fun w hr => r8_at A c w.heap.size z 2 100 w (by omega) (by decide) (by decide) hz hr
    have H3 := fun w hr => r8_at A c w.heap.size z 3 100 w (by omega) (by decide) (by decide) hz hr
    have H4 := fun w hr => r8_at A' d w.heap.size y 40 12 w (by omega) (by decide) (by decide) hzy hr
    have H5 := fun w hr => r8_at A' d w.heap.size y 41 200 w (by omega) (by decide) (by decide) hzy hr
    rw [show ((0 : Nat) : Int) = 0 from rfl] at H0
    rw [show ((1 : Nat) : Int) = 1 from rfl] at H1
    rw [show ((2 : Nat) : Int) = 2 from rfl] at H2
    rw [show ((3 : Nat) : Int) = 3 from rfl] at H3
    rw [show ((40 : Nat) : Int) = 40 from rfl] at H4
    rw [show ((41 : Nat) : Int) = 41 from rfl] at H5
    obtain ⟨cN, c0, c1, c2⟩ := at_nat z hz 0 4 (by decide) 1
    obtain ⟨rN, q0, q1, q2⟩ := at_nat z hz 1 4 (by decide) 1
    obtain ⟨dx, x0, x1, x2⟩ := at_nat z hz 2 100 (by decide) 1
    obtain ⟨dy, y0, y1, y2⟩ := at_nat z hz 3 100 (by decide) 1
    obtain ⟨nN, n0, n1, n2⟩ := at_nat y hzy 40 12 (by decide) 1
    obtain ⟨ra, a0, a1, a2⟩ := at_nat y hzy 41 200 (by decide) 64
    rw [show ((1 : Nat) : Int) = 1 from rfl] at c0 q0 x0 y0 n0
    rw [show ((64 : Nat) : Int) = 64 from rfl] at a0
    generalize r8 z 0 4 = c' at *
    generalize r8 z 1 4 = q' at *
    generalize r8 z 2 100 = x' at *
    generalize r8 z 3 100 = y' at *
    generalize r8 y 40 12 = n' at *
    generalize r8 y 41 200 = a' at *
    have hvg := grid_vp (c := cN) (r := rN) (dx := dx) (dy := dy) (by omega) (by omega) (by omega) (by omega) (by omega) (by omega) (by omega) (by omega)
    obtain ⟨bx1, bx2, bx3, bx4⟩ := grid_box (c := cN) (r := rN) (dx := dx) (dy := dy) (by omega) (by omega) (by omega) (by omega)
    have hlg : (gp cN dx dy rN 0).length = rN * cN := gp_len cN dx dy rN 0
    have hgl : 1 ≤ rN * cN := Nat.mul_le_mul q1 c1
    have hgl2 : rN * cN ≤ 4 * 4 := Nat.mul_le_mul (by omega) (by omega)
    have HG := grid_impl cN rN dx dy
    rw [show given (gp cN dx dy rN 0) = gp cN dx dy rN 0 by unfold given; rw [if_pos hvg], hvg, hlg] at HG
    have hget : ∀ k, k < rN * cN → (gp cN dx dy rN 0).getD k (0, 0) = (((k % cN : Nat) : Int) * dx, ((k / cN : Nat) : Int) * dy) := fun k hk => gd k hk
    obtain ⟨M, hM⟩ : ∃ M, rN * cN = M := ⟨_, rfl⟩
    have hcr : (cN : Int) * (rN : Int) = (M : Int) := by rw [← hM, Int.natCast_mul, Int.mul_comm]
    have hmd : ∀ k, k < M → k % cN ≤ 3 ∧ k / cN ≤ 3 := fun k hk => by
      have := row_lt (r := rN) (c := cN) c1 k (by omega)
      omega
    have p1 := mul_mono (a := cN - 1) (b := 3) (d := dx) (by omega) (by omega)
    have p2 := mul_mono (a := rN - 1) (b := 3) (d := dy) (by omega) (by omega)
    rw [show ((cN - 1 : Nat) : Int) = (cN : Int) - 1 by omega] at p1
    rw [show ((rN - 1 : Nat) : Int) = (rN : Int) - 1 by omega] at p2
    rw [hM] at bx1 bx2 bx3 bx4 hlg hgl hgl2 HG hget
    generalize gp cN dx dy rN 0 = gl at *
    have HHG := Lib.hid HG
    have HGET := Lib.hid hget
    have HMD := Lib.hid hmd
    have HBX := Lib.hid (And.intro bx1 (And.intro bx2 (And.intro bx3 bx4)))
    have HVG := Lib.hid hvg
    have HLG := Lib.hid hlg
    have HP := Lib.hid (And.intro p1 p2)
    clear HG hget hmd bx1 bx2 bx3 bx4 hvg hlg p1 p2 hM
    go_enter Try.func5, Try.ntmps5
    go_wp2_with fail
    refine (long_no _ _ _ _ _ _ _ hl.1 hl.2).mono ?_
    rintro e w' ⟨rfl, rfl⟩
    go_wp2_with fail
    refine (H0 _ hr).mono ?_
    rintro e w' ⟨rfl, rfl⟩
    go_wp2_with fail
    refine (H1 _ hr).mono ?_
    rintro e w' ⟨rfl, rfl⟩
    go_wp2_with fail
    refine (H2 _ hr).mono ?_
    rintro e w' ⟨rfl, rfl⟩
    go_wp2_with fail
    refine (H3 _ hr).mono ?_
    rintro e w' ⟨rfl, rfl⟩
    clear H0 H1 H2 H3
    go_wp2_with fail
    refine (HHG.out _ c1 (by omega) q1 (by omega) (by omega) (by omega) (by omega) (by omega)).mono ?_
    rintro e w1 ⟨A1, cc1, rfl, ho1, g1⟩
    have R1 := Rd.of_lst ho1 rfl
    obtain ⟨ad1, rfl, _, _⟩ := R1.at_ (k := 0) (by omega)
    have HB := box_impl ad1 cc1 w1.heap.size gl w1 (by rw [HLG.out]; omega) (by rw [HLG.out]; exact R1) (Nat.le_refl _) HVG.out
    rw [HLG.out, HBX.out.1, HBX.out.2.1, HBX.out.2.2.1, HBX.out.2.2.2] at HB
    have HHB := Lib.hid HB
    clear HB ho1 HHG HBX
    go_wp2_with fail
    refine HHB.out.mono ?_
    rintro e w2 ⟨rfl, g2⟩
    have R2 := R1.kept0 g2 (Nat.le_refl _)
    have g02 := g1.trans g2
    have h12 := g2.size
    have HR := Lib.hid (And.intro R2 (And.intro g02 h12))
    clear R1 R2 g02 g1 g2 HHB h12
    obtain ⟨⟨p1, p2⟩, ⟨p3, p4⟩⟩ := HP.out
    go_wp2_with fail
    obtain ⟨w3, hw3⟩ : ∃ w3, (w2.alloc (.cells #[.int .i64 0, .int .i64 0] 49)).alloc (.cells #[.int .i64 (((cN : Int) - 1) * dx), .int .i64 (((rN : Int) - 1) * dy)] 49) = w3 := ⟨_, rfl⟩
    have ga := (World.grownBy_alloc w2 (.cells #[.int .i64 0, .int .i64 0] 49) none).trans (World.grownBy_alloc _ (.cells #[.int .i64 (((cN : Int) - 1) * dx), .int .i64 (((rN : Int) - 1) * dy)] 49) none)
    rw [hw3] at ga ⊢
    have HR3 := Lib.hid (And.intro ((HR.out.1.kept0 ga HR.out.2.2).mono (Nat.le_trans HR.out.2.2 ga.size)) (HR.out.2.1.trans ga))
    clear HR ga hw3 p1 p2 p3 p4 HP HVG
    go_loopw [14] (fun i wr => ∃ k : Nat, k ≤ M ∧ i = .int .i64 k ∧ w3.grownBy wr none) (fun i _ => M - (intOf i).toNat)
    case atStart => exact ⟨0, by omega, rfl, World.grownBy.refl _ _⟩
    case round =>
      obtain ⟨k, hk, rfl, hg⟩ := hrel
      by_cases hlt : k < M
      · have hgk := HGET.out k hlt
        obtain ⟨m1, m2⟩ := HMD.out k hlt
        have R3 := HR3.out.1.kept0 hg (Nat.le_refl _)
        have hkl : k < gl.length := by rw [HLG.out]; exact hlt
        obtain ⟨ad', e', _, hc, hd⟩ := Rd.pair (ps := gl) (by rw [HLG.out]; exact R3) hkl
        obtain rfl : ad1 = ad' := Option.some.inj e'
        rw [show gl.getD k (0, 0) = gl[k] by simp [List.getD, hkl]] at hgk
        rw [hgk] at hc hd
        have he1 : (k : Int).tmod (cN : Int) = ((k % cN : Nat) : Int) := (Int.ofNat_tmod k cN).symm
        have he2 : (k : Int).tdiv (cN : Int) = ((k / cN : Nat) : Int) := (Int.ofNat_tdiv k cN).symm
        obtain ⟨u1, u2⟩ := mul_mono (d := dx) m1 (by omega)
        obtain ⟨u3, u4⟩ := mul_mono (d := dy) m2 (by omega)
        generalize k % cN = q at *
        generalize k / cN = t at *
        have k0 : (0 : Int) ≤ k := by omega
        have k1 : (k : Int) < M := by omega
        have cne : (cN : Int) ≠ 0 := by omega
        have hqq : -9223372036854775808 ≤ (q : Int) ∧ (q : Int) ≤ 9223372036854775807 := by omega
        have htt : -9223372036854775808 ≤ (t : Int) ∧ (t : Int) ≤ 9223372036854775807 := by omega
        have w1' : IntKind.i64.wrap ((q : Int) * dx) = (q : Int) * dx := by rw [IntKind.wrap_i64]; omega
        have w2' : IntKind.i64.wrap ((t : Int) * dy) = (t : Int) * dy := by rw [IntKind.wrap_i64]; omega
        have w3' : IntKind.i64.wrap (q : Int) = q := by rw [IntKind.wrap_i64]; omega
        have w4' : IntKind.i64.wrap (t : Int) = t := by rw [IntKind.wrap_i64]; omega
        clear R3 hgk e' hkl
        go_wp2_with fail
        go_quiet (fail)
        have hgd := hg.trans (gb_drewN wr nq none)
        clear hc hd hg
        generalize wr.drewN nq = wq at *
        go_wp2_with fail
        go_roundw
        case rel => exact ⟨k + 1, by omega, by go_num, hgd⟩
        case measure => simp [intOf]; omega
      · obtain rfl : k = M := by omega
        have hgw := HR3.out.2.trans hg
        have hpl := places_is A' d y wr (by omega) hzy ((hry.kept0 hgw (Nat.le_refl _)).mono hgw.size)
        have HPL := Lib.hid hpl
        have HGW := Lib.hid hgw
        clear hpl hgw HR3 hg HGET HMD
        go_wp2_with fail
        refine HPL.out.mono ?_
        rintro e w4 ⟨ps, A4, c4, hv, rfl, ho4, g4⟩
        have hcap := own_le ho4
        have R4 := Rd.of_lst ho4 rfl
        have hl16 := vp_yes hv
        have hle := c_impl A4 c4 w4.heap.size ps w4 (by omega) hcap.1 (by have := hcap.2; unfold maxLen at this; omega) R4 (Nat.le_refl _)
        obtain ⟨f1, f2, f3, f4, f5⟩ := le_facts ps hv
        rw [f1] at hle
        have HLE := Lib.hid hle
        have HF := Lib.hid (And.intro f2 f3)
        have HV := Lib.hid hv
        have g04 := HGW.out.trans g4
        have n1' : 1 ≤ ps.length := hl16.1
        have n2' : ps.length ≤ 16 := hl16.2.1
        clear hle f1 f2 f3 hv ho4 hcap g4 hl16 HGW HPL
        generalize (leR ps).1 = L at *
        go_wp2_with fail
        refine HLE.out.mono ?_
        rintro e w5 ⟨rfl, g5⟩
        have R5 := (R4.kept0 g5 (Nat.le_refl _)).mono g5.size
        have HR5 := Lib.hid (And.intro R5 (g04.trans g5))
        clear R4 R5 g04 g5 HLE
        go_wp2_with fail
        go_loopw [18, 19] (fun f i wr => ∃ k : Nat, k ≤ ps.length ∧ i = .int .i64 k ∧ f = .bool (decide (L ∈ pr ps k 0)) ∧ w5.grownBy wr none) (fun _ i _ => ps.length - (intOf i).toNat)
        case atStart => exact ⟨0, Nat.zero_le _, rfl, rfl, World.grownBy.refl _ _⟩
        case round =>
          obtain ⟨i, hi, rfl, rfl, hg⟩ := hrel
          by_cases hlt : i < ps.length
          · generalize hfb : decide (L ∈ pr ps i 0) = fb at *
            go_wp2_with fail
            obtain ⟨wo, rfl⟩ : ∃ wo : World, wo = wr := ⟨_, rfl⟩
            go_loopw [18, 20] (fun f j wi => ∃ m : Nat, m ≤ i ∧ j = .int .i64 m ∧ f = .bool (decide (L ∈ pr ps i m)) ∧ w5.grownBy wi none) (fun _ j _ => i - (intOf j).toNat)
            case atStart => exact ⟨0, Nat.zero_le _, rfl, by rw [hfb], hg⟩
            case round =>
              obtain ⟨m, hm, rfl, rfl, hgi⟩ := hrel
              by_cases hmk : m < i
              · have R6 := HR5.out.1.kept0 hgi (Nat.le_refl _)
                obtain ⟨bd, e, _, hx1, hy1⟩ := Rd.pair R6 hlt
                obtain ⟨bd', e', _, hx2, hy2⟩ := Rd.pair R6 (Nat.lt_trans hmk hlt)
                subst e
                injection e' with e'
                subst e'
                obtain ⟨a1, a2, a3, a4⟩ := ok_at HV.out i hlt
                obtain ⟨b1, b2, b3, b4⟩ := ok_at HV.out m (by omega)
                obtain ⟨x1, x2⟩ := sqr_bd (ps[i].1 - ps[m].1) (by omega) (by omega)
                obtain ⟨x3, x4⟩ := sqr_bd (ps[i].2 - ps[m].2) (by omega) (by omega)
                have hs : sqa ps i m = (ps[i].1 - ps[m].1) * (ps[i].1 - ps[m].1) + (ps[i].2 - ps[m].2) * (ps[i].2 - ps[m].2) := by
                  rw [sqa_at ps i m hlt (by omega)]; rfl
                have hL := HF.out.1 i m hmk hlt
                have hn := found_next ps L i m
                rw [hs] at hL hn
                have HN := Lib.hid hn
                have hk0 : (0 : Int) ≤ i := by omega
                have hk1 : (i : Int) < ps.length := by omega
                have hm0 : (0 : Int) ≤ m := by omega
                have hm1 : (m : Int) < ps.length := by omega
                clear R6 hs hn
                generalize hfm : decide (L ∈ pr ps i m) = fm at *
                generalize ps[i] = P at *
                generalize ps[m] = Q at *
                obtain ⟨pi1, pi2⟩ := P
                obtain ⟨qi1, qi2⟩ := Q
                dsimp only at *
                go_wp2
                go_quiet (fail)
                go_wp2
                go_quiet (fail)
                cases fm
                all_goals
                  go_wp2_with fail
                  go_roundw
                  case rel =>
                    refine ⟨m + 1, by omega, by go_num, ?_, hgi.trans (gb_drewN _ _ _)⟩
                    rw [HN.out]
                    by_cases hq : (pi1 - qi1) * (pi1 - qi1) + (pi2 - qi2) * (pi2 - qi2) = L <;> simp [hq]
                  case measure => simp [intOf]; omega
              · obtain rfl : m = i := by omega
                rw [pr_row]
                go_wp2_with fail
                go_roundw
                case rel => exact ⟨m + 1, by omega, by go_num, rfl, hgi⟩
                case measure => simp [intOf]; omega
          · obtain rfl : i = ps.length := by omega
            rw [HF.out.2]
            have hgz := HR5.out.2.trans hg
            have hryz := (hry.kept0 hgz (Nat.le_refl _)).mono hgz.size
            obtain ⟨hb1, hb2⟩ : decide (1 < ps.length) = decide (1 < ps.length) ∧ decide ((1 : Int) < ps.length) = decide (1 < ps.length) := ⟨rfl, decide_eq_decide.2 (by omega)⟩
            generalize hfb : decide (1 < ps.length) = fb at *
            clear hb1
            have HGZ := Lib.hid hgz
            clear hgz hg HR5 HF HV
            go_wp2_with fail
            refine (H4 _ hryz).mono ?_
            rintro e w' ⟨rfl, rfl⟩
            go_wp2_with fail
            refine (H5 _ hryz).mono ?_
            rintro e w' ⟨rfl, rfl⟩
            clear H4 H5
            have hvr := ring_valid nN ra n1 (by omega) (by omega) (by omega)
            have hrp := ring_impl nN ra wr n1 (by omega) (by omega) (by omega)
            rw [show give.given (rgl nN ra nN) = rgl nN ra nN by unfold give.given; rw [if_pos hvr], hvr, rgl_len] at hrp
            have HRP := Lib.hid hrp
            clear hrp hvr
            go_wp2_with fail
            refine HRP.out.mono ?_
            rintro e w6 ⟨A6, c6, rfl, ho6, g6⟩
            have R6 := Rd.of_lst ho6 rfl
            have HR6 := Lib.hid (And.intro R6 (HGZ.out.trans g6))
            clear R6 ho6 g6 HRP HGZ hryz
            cases fb
            all_goals
              go_wp2_with fail
              go_loopw [27] (fun i wr => ∃ k : Nat, k ≤ nN ∧ i = .int .i64 k ∧ w6.grownBy wr none) (fun i _ => nN - (intOf i).toNat)
              case atStart => exact ⟨0, Nat.zero_le _, rfl, World.grownBy.refl _ _⟩
              case round =>
                obtain ⟨k, hk, rfl, hg⟩ := hrel
                have R6 := HR6.out.1.kept0 hg (Nat.le_refl _)
                by_cases hlt : k < nN
                · obtain ⟨ad6, rfl, _, hc, hd⟩ := Rd.pair (ps := rgl nN ra nN) (by rw [rgl_len]; exact R6) (k := k) (by rw [rgl_len]; exact hlt)
                  have hge : (rgl nN ra nN)[k]'(by rw [rgl_len]; exact hlt) = rpl nN ra k := by simp [rgl]
                  rw [hge] at hc hd
                  have hsq := ring_sq nN k ra (by omega) hlt (by omega) (by omega)
                  clear hge R6
                  generalize rpl nN ra k = XY at *
                  obtain ⟨X, Y⟩ := XY
                  dsimp only at *
                  obtain ⟨f1, f2, f3, f4, f5, f6⟩ := ring_small hsq (by omega) (by omega)
                  have fr1 : 0 ≤ (ra : Int) * ra ∧ (ra : Int) * ra ≤ 69169 := by
                    have := Int.mul_le_mul (a := (ra : Int)) (b := (ra : Int)) (c := 263) (d := 263) (by omega) (by omega) (by omega) (by omega)
                    have h0 := Int.mul_nonneg (show (0 : Int) ≤ ra by omega) (show (0 : Int) ≤ ra by omega)
                    omega
                  have s1 := i64_ok (X * X + Y * Y) (by omega)
                  have s2 := i64_ok ((ra : Int) * ra) (by omega)
                  obtain ⟨e3, s3⟩ := mul_s three_s (i64_ok (ra : Int) (by omega)) (by omega)
                  have hgv := gv_s s1 s2 (by omega)
                  have hgt := gt_s hgv s3 (by omega)
                  have HGQ := fun (w : World) (n : Nat) => Calls.quiet_of_same ((gap_s s1 s2 (by omega) (w.drewN n)).mono (by rintro e w' ⟨rfl, rfl⟩; exact ⟨rfl, rfl⟩))
                  have hmul := fun w : World => run_ok (P := Try.prog) (w := w) (t := 43) e3 rfl
                  have w1' : IntKind.i64.wrap (X * X) = X * X := by rw [IntKind.wrap_i64]; omega
                  have w2' : IntKind.i64.wrap (Y * Y) = Y * Y := by rw [IntKind.wrap_i64]; omega
                  have w3' : IntKind.i64.wrap (X * X + Y * Y) = X * X + Y * Y := by rw [IntKind.wrap_i64]; omega
                  have w4' : IntKind.i64.wrap ((ra : Int) * ra) = (ra : Int) * ra := by rw [IntKind.wrap_i64]; omega
                  have k0 : (0 : Int) ≤ k := by omega
                  have k1 : (k : Int) < nN := by omega
                  have HQ := Lib.hid HGQ
                  clear s1 s2 s3 e3 hgv hsq HGQ
                  generalize gv (floatOfInt .f64 (X * X + Y * Y)) (floatOfInt .f64 ((ra : Int) * ra)) = G at *
                  generalize bv .mul 4613937818241073152 (floatOfInt .f64 (ra : Int)) = T at *
                  go_wp2_with fail
                  go_quiet (first | (go_at_call 34; exact HQ.out _ _))
                  have hgd := hg.trans (gb_drewN wr nq none)
                  clear hc hd hg
                  generalize wr.drewN nq = wq at *
                  go_wp2_with fail
                  go_roundw
                  case rel => exact ⟨k + 1, by omega, by go_num, hgd⟩
                  case measure => simp [intOf]; omega
                · obtain rfl : k = nN := by omega
                  obtain ⟨ad6, rfl, _, hc, hd⟩ := Rd.pair (ps := rgl k ra k) (by rw [rgl_len]; exact R6) (k := 0) (by rw [rgl_len]; omega)
                  have hge : (rgl k ra k)[0]'(by rw [rgl_len]; omega) = rpl k ra 0 := by simp [rgl]
                  rw [hge, ring_first k ra n1 (by omega) (by omega) (by omega)] at hc hd
                  rw [show ad6.add (0 * 2) = ad6 from rfl] at hc hd
                  have hn0 : 0 < k := n1
                  have hn0' : (0 : Int) < k := by omega
                  have HE := Lib.hid (gb_below (HR6.out.2.trans hg))
                  clear hge R6 HR6 hg
                  go_wp2_with fail
                  go_ret
                  exact ⟨rfl, HE.out⟩
  · have hl' : 48 < z.length ∨ 48 < y.length := by omega
    go_enter Try.func5, Try.ntmps5
    go_wp2_with fail
    refine (long_yes _ _ _ _ _ _ _ hl' hm hy).mono ?_
    rintro e w' ⟨rfl, rfl⟩
    go_wp2_with fail
    go_ret
    exact ⟨rfl, Below.refl _ _⟩

theorem walk (a0 : Option Addr) (len0 cap0 : Nat) (z0 : List Int) (a1 : Option Addr) (len1 cap1 : Nat) (z1 : List Int) (w : World) (l0 : z0.length = len0) (m0 : len0 ≤ maxLen) (w0 : ∀ x ∈ z0, (Lit.int .u8 x).wf = true) (r0 : Rd w w.heap.size a0 len0 (fun j => .int .u8 (z0.getD j 0)))
    (l1 : z1.length = len1) (m1 : len1 ≤ maxLen) (w1 : ∀ x ∈ z1, (Lit.int .u8 x).wf = true) (r1 : Rd w w.heap.size a1 len1 (fun j => .int .u8 (z1.getD j 0))) :
    Calls Try.prog 5 #[.slice a0 len0 cap0, .slice a1 len1 cap1] w fun e w' => e = .returned (.bool true) ∧ Below w.heap.size w w' := by
  subst l0 l1
  unfold maxLen at m0 m1
  exact law a0 a1 cap0 cap1 z0 z1 w (Byt.of w0) (Byt.of w1) (by omega) (by omega) r0 r1

set_option maxRecDepth 100000 in
theorem lifted (os : Os) (started : os.Started) (H : Type) (enc : TypeId × Value → H) :
    ReturnsInHanded {} Try.checked os 5 .any (Rows.fnShapesSpec.pre6 enc Try.prog Try.f5 Rows.fnShapesRow.domain false) (Rows.fnShapesSpec.post enc Try.prog Try.f5 false true false false) := by
  refine returnsInHanded_of_change (C := Try.checked) own started (by kernel_rfl) Try.func5
    (ChangeSpec.witness6 (enc := enc) (C := Try.checked) false ⟨#[], #[.slice none 0 0, .slice none 0 0], []⟩ 8 (by kernel_rfl) (by kernel_rfl) (by kernel_rfl) (by kernel_rfl)) ?_
  intro W base args ds gs before hval0 hW hcnd _
  have hval : ∀ (j : Nat) t v, Try.f5.params[j]? = some t → args[j]? = some v → Value.okWide Try.prog W .any base t v := hval0
  have hW' := hW
  obtain ⟨p, q, hA0, hV, rfl, hfz, hnd⟩ := hW
  have hA : DataW.TrodAll enc Try.prog W 0 (fun _ => true) true Try.f5.params.toList args.toList ds p := hA0
  rw [Try.params5] at hA hval
  obtain ⟨v0, vs0, d0, ds0, p0, q0, hargs, rfl, rfl, h0, r0⟩ := trodAll_cons hA
  obtain ⟨v1, vs1, d1, ds1, p1, q1, rfl, rfl, rfl, h1, r1⟩ := trodAll_cons r0
  obtain ⟨rfl, rfl, rfl⟩ := trodAll_nil r1
  obtain rfl : args = #[v0, v1] := by cases args; simp_all
  obtain ⟨rfl, rfl⟩ := trodVars_none hV
  obtain ⟨a0, len0, cap0, rfl⟩ := okWide_slice Try.underlying22 (hval 0 22 v0 rfl rfl)
  have k0 := h0
  have lt0 : ∀ x ∈ p0, x.block < W.heap.size := by obtain ⟨m, hm⟩ := k0; exact DataW.trod_lt m _ _ _ hm
  obtain ⟨z0, l0, m0, w0, r0'⟩ := opened_ints Try.underlying22 Try.underlying5 (by kernel_rfl) k0
  obtain ⟨a1, len1, cap1, rfl⟩ := okWide_slice Try.underlying22 (hval 1 22 v1 rfl rfl)
  have k1 := h1
  have lt1 : ∀ x ∈ p1, x.block < W.heap.size := by obtain ⟨m, hm⟩ := k1; exact DataW.trod_lt m _ _ _ hm
  obtain ⟨z1, l1, m1, w1, r1'⟩ := opened_ints Try.underlying22 Try.underlying5 (by kernel_rfl) k1
  clear hA0 hval0
  refine (walk a0 len0 cap0 z0 a1 len1 cap1 z1 W l0 m0 w0 r0' l1 m1 w1 r1').mono fun e W' ⟨he, bel⟩ => ?_
  subst he
  exact ⟨_, rfl, _, _, _, [], _, [], hW', trodAll_mk1 (shut_bool Try.underlying4 _), (trodAll_cons_mk (Below.trod laidOut (by kernel_rfl) (of_decide_eq_true (by kernel_rfl)) k0 bel lt0) (trodAll_cons_mk (Below.trod laidOut (by kernel_rfl) (of_decide_eq_true (by kernel_rfl)) k1 bel lt1) trodAll_mk0)), rfl, bel.frame _, fun h => by cases h⟩

theorem over : Rows.fnShapesRow.holds Try.pinned (OpenSpec.ofChange Rows.fnShapesSpec) :=
  OpenClaim.holds_of_wide 5 Try.f5 rfl rfl rfl rfl rfl rfl rfl ⟨rfl, rfl, rfl, rfl, rfl⟩ rfl rfl rfl rfl rfl (by kernel_rfl) Try.func5 (by kernel_rfl)
    (of_decide_eq_true (by kernel_rfl)) (by unfold Func.isWrapper; first | (rw [if_pos (by decide +kernel)]; kernel_rfl) | (rw [if_neg (by decide +kernel)]; exact ⟨rfl, rfl⟩))
    (fun os started H enc _ => lifted os started H enc)

theorem proved : Rows.FnShapesSaid := over
#print axioms proved
end Go.Proofs.Ytdanlghaiekeaaa.fnShapes
