/- Tenths of decibels by the model. -/
import Derived.Test.YthnifmgjgdmmoaaRows
import Derived.Test.YthnifmgjgdmmoaaFloats
import Derived.Test.YthnifmgjgdmmoaaRound
import Derived.Test.YthnifmgjgdmmoaaValues
import Derived.Test.YthnifmgjgdmmoaaConv
import Derived.Test.YthnifmgjgdmmoaaFWalk
import Derived.Test.YthnifmgjgdmmoaaFinWalk
import Derived.Test.YthnifmgjgdmmoaaFloat2
import Derived.Test.YthnifmgjgdmmoaaFloat3
import Derived.Test.YthnifmgjgdmmoaaPhase
import Derived.Test.YthnifmgjgdmmoaaSine
import Derived.Test.YthnifmgjgdmmoaaFinBoth
import Derived.Test.YthnifmgjgdmmoaaLogNum
import Derived.Test.YthnifmgjgdmmoaaLogWalk
import Derived.Test.YthnifmgjgdmmoaaTenths
import Derived.WalkKit
import Derived.ProofKit
import Derived.OpenShut
import Derived.ShutString
import Derived.ChangeOld
import Derived.Below
import Derived.Lib.Hide
import Derived.BigQuiet
import Derived.Deep.QuietTactic
import Derived.WalkLawsBesides
import Derived.Outline
import Derived.Deep.LoopGhost
namespace Go.Proofs.Ythnifmgjgdmmoaa.tenths2
open Go.ChangeShapes Go.WideShapes Go.ChangeAt Go.RowKit
open Go.ChangeMaps (open_string shut_string)
set_option linter.unusedVariables false
open Go Ieee
open Go.Proofs.Ythnifmgjgdmmoaa.floats Go.Proofs.Ythnifmgjgdmmoaa.round Go.Proofs.Ythnifmgjgdmmoaa.values Go.Proofs.Ythnifmgjgdmmoaa.conv Go.Proofs.Ythnifmgjgdmmoaa.fWalk Go.Proofs.Ythnifmgjgdmmoaa.finWalk Go.Proofs.Ythnifmgjgdmmoaa.float2 Go.Proofs.Ythnifmgjgdmmoaa.float3 Go.Proofs.Ythnifmgjgdmmoaa.phase Go.Proofs.Ythnifmgjgdmmoaa.sine Go.Proofs.Ythnifmgjgdmmoaa.finBoth Go.Proofs.Ythnifmgjgdmmoaa.logNum Go.Proofs.Ythnifmgjgdmmoaa.logWalk Go.Proofs.Ythnifmgjgdmmoaa.tenths

attribute [local go_sem] cvi64
def t1p (p : Nat) : Nat := t1 (e2 p).2 (((e1 p).1 : Int) - ((e2 p).1 : Int))
def t2p (p : Nat) : Nat := t2 (e2 p).2 (((e1 p).1 : Int) - ((e2 p).1 : Int))
theorem le_max {y : Nat} (h : Nrm y) : (FloatKind.f64.format.order y 9218868437227405311 == some .gt) = false := by
  have h2 := cmp_max h.fin.1
  have h3 := h.hi
  rw [inf64] at h3
  rwa [Nat.mod_eq_of_lt (by omega)] at h2
theorem isinf1 (y : Nat) (w : World) (h : Nrm y) : Calls Try.prog 124 #[.float .f64 y, .int .i64 1] w fun e w' => e = .returned (.bool false) ∧ w = w' := by
  have hm := le_max h
  clear h
  go_enter Try.func124, Try.ntmps124
  go_wp2
  go_ret
  exact ⟨by rw [← hm]; rfl, rfl⟩

set_option maxHeartbeats 2000000 in
set_option maxRecDepth 100000 in
theorem lg_spec (p : Nat) (w : World) (hw2 : Hw (wl p) 128) :
    Calls Try.prog 106 #[.float .f64 (wl p)] w fun e w' => e = .returned (.float .f64 (lgp p)) ∧ w = w' ∧ floatBits .mul .f64 (lgp p) 4631308968768463603 = some (t1p p) ∧ floatBits .add .f64 (t1p p) 4602678819172646912 = some (t2p p) ∧ Bd (t2p p) (D64 + 23) := by
  have hself : FloatKind.f64.format.order (wl p) (wl p) = some .eq := order_refl (fin_not_nan (k := .f64) hw2.nrm.fin.1)
  have ho : FloatKind.f64.format.order (wl p) 0 = some .gt := gt_is hw2.nrm.fin.1 F_zero (by rw [V_zero]; have := hw2.lo; have := q64_pos; omega)
  go_enter Try.func106, Try.ntmps106
  go_wp2_with fail
  refine (isinf1 _ _ hw2.nrm).mono ?_
  rintro e w' ⟨rfl, rfl⟩
  clear hself
  go_wp2_with fail
  go_loop [0, 3] (fun f q => ∃ (i y : Nat), i ≤ 128 ∧ f = .float .f64 y ∧ q = .int .i64 i ∧ Hw y (128 - i) ∧ hrun (129 - i) i y = e1 p) (fun _ q => (128 - intOf q).toNat)
  case atStart => exact ⟨0, _, Nat.zero_le _, rfl, rfl, hw2, rfl⟩
  case round =>
    obtain ⟨i, y, hi, rfl, rfl, hy, hr⟩ := hrel
    by_cases hge : 6 * (q64 : Int) ≤ V double y
    · have hi4 : i < 128 := by
        rcases Nat.lt_or_ge i 128 with hlt | hle
        · exact hlt
        · exfalso
          obtain rfl : i = 128 := by omega
          exact absurd (h_end hy) (by omega)
      have hy' : Hw y ((127 - i) + 1) := by rw [show 127 - i + 1 = 128 - i by omega]; exact hy
      obtain ⟨a1, a2⟩ := h_step hy' hge
      have hq := run_ok (P := Try.prog) a1 rfl
      have hr' : hrun (128 - i) (i + 1) (hf y) = e1 p := by
        rw [← hr, show 129 - i = (128 - i) + 1 by omega]
        simp [hrun, hge]
      have hoo := ge15 hy.nrm.fin.1 hge
      have HR := Lib.hid hr'
      clear a1 hr hge hy' hr' ho
      rcases hoo with ho | ho
      all_goals
        go_wp2_with fail
        go_round
        case rel => exact ⟨i + 1, hf y, by omega, rfl, by go_num, by rw [show 128 - (i + 1) = 127 - i by omega]; exact a2, by rw [show 129 - (i + 1) = 128 - i by omega]; exact HR.out⟩
        case measure => simp [intOf]; omega
    · have hE : e1 p = (i, y) := by
        rw [← hr, show 129 - i = (128 - i) + 1 by omega]
        simp [hrun, hge]
      have hD : Dw y 149 := ⟨hy.nrm, by omega, hy.lo⟩
      have hol := lt_is hy.nrm.fin.1 F15 (by rw [V15]; omega)
      have HE := Lib.hid hE
      clear hE hr hge hy ho
      go_wp2_with fail
      clear hol
      go_loop [0, 3] (fun f q => ∃ (j z : Nat), j ≤ 149 ∧ f = .float .f64 z ∧ q = .int .i64 ((i : Int) - (j : Int)) ∧ Dw z (149 - j) ∧ drun (150 - j) j z = drun 150 0 y) (fun _ q => (149 - ((i : Int) - intOf q)).toNat)
      case atStart => exact ⟨0, _, Nat.zero_le _, rfl, by go_num, hD, rfl⟩
      case round =>
        obtain ⟨j, z, hj, rfl, rfl, hz, hr⟩ := hrel
        by_cases hlt : V double z < 3 * (q64 : Int)
        · have hj4 : j < 149 := by
            rcases Nat.lt_or_ge j 149 with hlt | hle
            · exact hlt
            · exfalso
              obtain rfl : j = 149 := by omega
              exact absurd (d_end hz) (by omega)
          have hz' : Dw z ((148 - j) + 1) := by rw [show 148 - j + 1 = 149 - j by omega]; exact hz
          obtain ⟨a1, a2⟩ := d_step hz' hlt
          have hq := run_ok (P := Try.prog) a1 rfl
          have hr' : drun (149 - j) (j + 1) (df z) = drun 150 0 y := by
            rw [← hr, show 150 - j = (149 - j) + 1 by omega]
            simp [drun, hlt]
          have hol := lt_is hz.nrm.fin.1 F_34 (by rw [V_34]; omega)
          have HR := Lib.hid hr'
          clear a1 hr hlt hz' hr'
          go_wp2_with fail
          go_round
          case rel => exact ⟨j + 1, df z, by omega, rfl, by go_num, by rw [show 149 - (j + 1) = 148 - j by omega]; exact a2, by rw [show 150 - (j + 1) = 149 - j by omega]; exact HR.out⟩
          case measure => simp [intOf]; omega
        · have hE2 : drun 150 0 y = (j, z) := by
            rw [← hr, show 150 - j = (149 - j) + 1 by omega]
            simp [drun, hlt]
          obtain ⟨y1, y2, y3, y4, y5, y6⟩ := y_ok hz.nrm (by omega) hz.up
          have hol := lt_no hz.nrm.fin.1 F_34 (by rw [V_34]; omega)
          have r1 := run_ok (P := Try.prog) y1 rfl
          have r2 := run_ok (P := Try.prog) y2 rfl
          have r3 := run_ok (P := Try.prog) y3 rfl
          have r5 := run_ok (P := Try.prog) y5 rfl
          have HE2 := Lib.hid hE2
          clear hE2 hr hlt hz y1 y2 y3 y5
          go_wp2_with fail
          clear r1 r2 r3 r5 hol
          go_loop [6, 7] (fun q k => ∃ m : Nat, m ≤ 13 ∧ q = .float .f64 (qv (yu z) m) ∧ k = .int .i64 (kf m)) (fun _ k => ((intOf k + 1) / 2).toNat)
          case atStart => exact ⟨0, Nat.zero_le _, rfl, rfl⟩
          case round =>
            obtain ⟨m, hm, rfl, rfl⟩ := hrel
            have hk2 : kf m ≤ 25 ∧ -1 ≤ kf m ∧ kf (m + 1) = kf m - 2 := by unfold kf; omega
            obtain ⟨hk2, hk3, hk4⟩ := hk2
            by_cases hlt : m < 13
            · have hk1 : 1 ≤ kf m := by unfold kf; omega
              obtain ⟨q1, q2, q3⟩ := (q_ok y6 m hm).2 hlt
              have r1 := run_ok (P := Try.prog) q1 rfl
              have r2 := run_ok (P := Try.prog) q2 rfl
              have r3 := run_ok (P := Try.prog) q3 rfl
              clear q1 q2 q3
              go_wp2_with fail
              go_round
              case rel => exact ⟨m + 1, by omega, rfl, by rw [hk4]⟩
              case measure => simp [intOf]; omega
            · obtain rfl : m = 13 := by omega
              have hk1 : kf 13 < 1 := by decide
              have hea : ((i : Int) - (j : Int)).natAbs ≤ 2 ^ 8 := by omega
              obtain ⟨l1, l2, l3, l4, l5, l6, l7⟩ := l_ok y4 y6 hea
              have r1 := run_ok (P := Try.prog) l1 rfl
              have r2 := run_ok (P := Try.prog) l2 rfl
              have r3 := run_ok (P := Try.prog) l3 rfl
              have r4 := run_ok (P := Try.prog) l4 rfl
              have r5 := run_ok (P := Try.prog) l5 rfl
              have r6 := run_ok (P := Try.prog) l6 rfl
              have HF := Lib.hid (And.intro l5 (And.intro l6 l7))
              clear l1 l2 l3 l4 l5 l6 l7
              have hres : lgp p = lg z ((i : Int) - (j : Int)) ∧ t1p p = t1 z ((i : Int) - (j : Int)) ∧ t2p p = t2 z ((i : Int) - (j : Int)) := by unfold lgp t1p t2p e2; rw [HE.out]; dsimp only; rw [HE2.out]; exact ⟨rfl, rfl, rfl⟩
              have HH := Lib.hid hres
              clear hres HE HE2 r5 r6
              go_wp2_with fail
              go_ret
              exact ⟨by rw [HH.out.1]; rfl, rfl, by rw [HH.out.1, HH.out.2.1]; exact HF.out.1, by rw [HH.out.2.1, HH.out.2.2]; exact HF.out.2.1, by rw [HH.out.2.2]; exact HF.out.2.2⟩

end Go.Proofs.Ythnifmgjgdmmoaa.tenths2
