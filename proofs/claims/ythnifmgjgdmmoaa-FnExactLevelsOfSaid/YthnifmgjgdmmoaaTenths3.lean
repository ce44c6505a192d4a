/- Tenths of decibels of any number, by the program and by the model. -/
import Derived.Test.YthnifmgjgdmmoaaRows
import Derived.Test.YthnifmgjgdmmoaaFloats
import Derived.Test.YthnifmgjgdmmoaaRound
import Derived.Test.YthnifmgjgdmmoaaValues
import Derived.Test.YthnifmgjgdmmoaaConv
import Derived.Test.YthnifmgjgdmmoaaFWalk
import Derived.Test.YthnifmgjgdmmoaaFinWalk
import Derived.Test.YthnifmgjgdmmoaaFloat2
import Derived.Test.YthnifmgjgdmmoaaFloat3
import Derived.Test.YthnifmgjgdmmoaaPhase
import Derived.Test.YthnifmgjgdmmoaaSine
import Derived.Test.YthnifmgjgdmmoaaFinBoth
import Derived.Test.YthnifmgjgdmmoaaLogNum
import Derived.Test.YthnifmgjgdmmoaaLogWalk
import Derived.Test.YthnifmgjgdmmoaaTenths
import Derived.Test.YthnifmgjgdmmoaaTenths2
import Derived.WalkKit
import Derived.ProofKit
import Derived.OpenShut
import Derived.ShutString
import Derived.ChangeOld
import Derived.Below
import Derived.Lib.Hide
import Derived.BigQuiet
import Derived.Deep.QuietTactic
import Derived.WalkLawsBesides
import Derived.Outline
namespace Go.Proofs.Ythnifmgjgdmmoaa.tenths3
open Go.ChangeShapes Go.WideShapes Go.ChangeAt Go.RowKit
open Go.ChangeMaps (open_string shut_string)
set_option linter.unusedVariables false
open Go Ieee
open Go.Proofs.Ythnifmgjgdmmoaa.floats Go.Proofs.Ythnifmgjgdmmoaa.round Go.Proofs.Ythnifmgjgdmmoaa.values Go.Proofs.Ythnifmgjgdmmoaa.conv Go.Proofs.Ythnifmgjgdmmoaa.fWalk Go.Proofs.Ythnifmgjgdmmoaa.finWalk Go.Proofs.Ythnifmgjgdmmoaa.float2 Go.Proofs.Ythnifmgjgdmmoaa.float3 Go.Proofs.Ythnifmgjgdmmoaa.phase Go.Proofs.Ythnifmgjgdmmoaa.sine Go.Proofs.Ythnifmgjgdmmoaa.finBoth Go.Proofs.Ythnifmgjgdmmoaa.logNum Go.Proofs.Ythnifmgjgdmmoaa.logWalk Go.Proofs.Ythnifmgjgdmmoaa.tenths Go.Proofs.Ythnifmgjgdmmoaa.tenths2

theorem tnI_is (p : Nat) : tnI p = fli (t2p p) := rfl
theorem tn_l01 (p : Nat) (w : World) (hwf : (Lit.float .f32 p).wf = true) (hx : FinW single p) (hp : 0 < V single p) :
    Calls Try.prog 79 #[.float .f32 p] w fun e w' => e = .returned (.int .i64 (tnI p)) ∧ w = w' := by
  obtain ⟨hw1, hw2⟩ := wl_ok hwf hx hp
  have hcv := fun w => run_wl hw1 w
  have HT := Lib.hid (tnI_is p)
  clear hw1 hwf hx hp
  go_enter Try.func79, Try.ntmps79
  go_wp2_with fail
  refine (lg_spec p _ hw2).mono ?_
  rintro e w' ⟨rfl, rfl, l5, l6, l7⟩
  have r5 := run_ok (P := Try.prog) l5 rfl
  have r6 := run_ok (P := Try.prog) l6 rfl
  have hcf := (fli_ok l7).2.2
  clear l5 l6
  go_wp2_with fail
  refine (floor_call _ _ l7.1).mono ?_
  rintro e w' ⟨rfl, rfl⟩
  go_wp2_with fail
  go_ret
  exact ⟨by rw [HT.out]; rfl, rfl⟩

/-- The answers. -/
def tnOk (p : Nat) : Bool := decide (rg single p < single.infRung) && decide (0 < V single p)
def tnA (p : Nat) : Int × Bool := if tnOk p = true then (tnI p, true) else (0, false)
theorem F0s : FinW single 0 := by unfold FinW; decide +kernel
theorem V0s : V single 0 = 0 := by decide +kernel
theorem ord0 {p : Nat} (hx : FinW single p) : FloatKind.f32.format.order p 0 = some (compare (V single p) 0) := by
  rw [fmt32, order_fin single hx F0s, V0s]
theorem sub_b {p : Nat} (b : Bool) (hb : b = true ↔ FinW single p) (w : World) : (FloatKind.f32.format.order (fval .sub .f32 w p p) 0 == some .eq) = b := by
  cases b
  · exact sub_not (by rw [← hb]; simp) w
  · exact sub_zero (by rw [← hb]) w

set_option maxHeartbeats 800000 in
theorem tn_s (p : Nat) (w : World) (hwf : (Lit.float .f32 p).wf = true) :
    Calls Try.prog 48 #[.float .f32 p] w fun e w' => e = .returned (.tuple #[.int .i64 (tnA p).1, .bool (tnA p).2]) ∧ ∃ n, w.drewN n = w' := by
  by_cases hx : FinW single p
  · have hf := fun w => spec_l01 p w true (fun w => sub_b true (by simp [hx]) w)
    by_cases hp : 0 < V single p
    · have hA : tnA p = (tnI p, true) := by unfold tnA tnOk; rw [if_pos]; rw [Bool.and_eq_true, decide_eq_true_eq, decide_eq_true_eq]; exact ⟨hx, hp⟩
      rw [hA]
      have ho : FloatKind.f32.format.order p 0 = some .gt := by rw [ord0 hx, Int.compare_eq_gt.2 hp]
      have ht := fun w => tn_l01 p w hwf hx hp
      clear hA hx hp hwf
      generalize tnI p = r at *
      go_enter Try.func48, Try.ntmps48
      go_wp2_with fail
      refine (hf _).mono ?_
      rintro e w' ⟨rfl, n, rfl⟩
      go_wp2_with fail
      refine (ht _).mono ?_
      rintro e w' ⟨rfl, rfl⟩
      go_wp2_with fail
      go_ret2
      exact ⟨rfl, _, rfl⟩
    · have hA : tnA p = (0, false) := by
        unfold tnA tnOk; rw [if_neg]; rw [Bool.and_eq_true, decide_eq_true_eq, decide_eq_true_eq]; exact fun h => hp h.2
      rw [hA]
      have hoo : FloatKind.f32.format.order p 0 = some .lt ∨ FloatKind.f32.format.order p 0 = some .eq := by
        rw [ord0 hx]
        rcases Int.lt_or_eq_of_le (show V single p ≤ 0 by omega) with h | h
        · exact .inl (by rw [Int.compare_eq_lt.2 h])
        · exact .inr (by rw [h]; rfl)
      clear hA hx hp hwf
      rcases hoo with ho | ho
      all_goals
        go_enter Try.func48, Try.ntmps48
        go_wp2_with fail
        refine (hf _).mono ?_
        rintro e w' ⟨rfl, n, rfl⟩
        go_wp2_with fail
        go_ret2
        exact ⟨rfl, _, rfl⟩
  · have hf := fun w => spec_l01 p w false (fun w => sub_b false (by simp [hx]) w)
    have hA : tnA p = (0, false) := by
      unfold tnA tnOk; rw [if_neg]; rw [Bool.and_eq_true, decide_eq_true_eq, decide_eq_true_eq]; exact fun h => hx h.1
    rw [hA]
    clear hA hx hwf
    go_enter Try.func48, Try.ntmps48
    go_wp2_with fail
    refine (hf _).mono ?_
    rintro e w' ⟨rfl, n, rfl⟩
    go_wp2_with fail
    go_ret2
    exact ⟨rfl, _, rfl⟩

set_option maxHeartbeats 800000 in
theorem tn_i (p : Nat) (w : World) (hwf : (Lit.float .f32 p).wf = true) :
    Calls Try.prog 49 #[.float .f32 p] w fun e w' => e = .returned (.tuple #[.int .i64 (tnA p).1, .bool (tnA p).2]) ∧ ∃ n, w.drewN n = w' := by
  by_cases hx : FinW single p
  · by_cases hp : 0 < V single p
    · have hA : tnA p = (tnI p, true) := by unfold tnA tnOk; rw [if_pos]; rw [Bool.and_eq_true, decide_eq_true_eq, decide_eq_true_eq]; exact ⟨hx, hp⟩
      rw [hA]
      exact tn_impl p w hwf hx hp (by rw [ord0 hx, Int.compare_eq_gt.2 hp])
    · have hA : tnA p = (0, false) := by
        unfold tnA tnOk; rw [if_neg]; rw [Bool.and_eq_true, decide_eq_true_eq, decide_eq_true_eq]; exact fun h => hp h.2
      rw [hA]
      have ho : (FloatKind.f32.format.order p 0 == some .gt) = false := by
        rw [ord0 hx]
        have : compare (V single p) 0 ≠ .gt := by rw [Ne, Int.compare_eq_gt]; omega
        simpa using this
      clear hA hx hp hwf
      go_enter Try.func49, Try.ntmps49
      go_wp2_with fail
      go_ret2
      exact ⟨rfl, 0, rfl⟩
  · have hA : tnA p = (0, false) := by
      unfold tnA tnOk; rw [if_neg]; rw [Bool.and_eq_true, decide_eq_true_eq, decide_eq_true_eq]; exact fun h => hx h.1
    rw [hA]
    have hfin := fun w => impl_any p w hwf false (by simp [hx])
    clear hA hx hwf
    by_cases ho : FloatKind.f32.format.order p 0 = some .gt
    · go_enter Try.func49, Try.ntmps49
      go_wp2_with fail
      refine (hfin _).mono ?_
      rintro e w' ⟨rfl, n, rfl⟩
      go_wp2_with fail
      go_ret2
      exact ⟨rfl, _, rfl⟩
    · have ho' : (FloatKind.f32.format.order p 0 == some .gt) = false := by simpa using ho
      clear ho
      go_enter Try.func49, Try.ntmps49
      go_wp2_with fail
      go_ret2
      exact ⟨rfl, 0, rfl⟩

end Go.Proofs.Ythnifmgjgdmmoaa.tenths3
