/- The mean of a cut, by the program and by the model. -/
import Derived.Test.YthnifmgjgdmmoaaRows
import Derived.Test.YthnifmgjgdmmoaaSlc
import Derived.Test.YthnifmgjgdmmoaaSmall
import Derived.Test.YthnifmgjgdmmoaaFloats
import Derived.Test.YthnifmgjgdmmoaaRound
import Derived.Test.YthnifmgjgdmmoaaValues
import Derived.Test.YthnifmgjgdmmoaaConv
import Derived.Test.YthnifmgjgdmmoaaFWalk
import Derived.Test.YthnifmgjgdmmoaaCut
import Derived.Test.YthnifmgjgdmmoaaListF
import Derived.Test.YthnifmgjgdmmoaaPeak
import Derived.Test.YthnifmgjgdmmoaaFloat2
import Derived.Test.YthnifmgjgdmmoaaFloat3
import Derived.Test.YthnifmgjgdmmoaaMeanNum
import Derived.WalkKit
import Derived.ProofKit
import Derived.OpenShut
import Derived.ShutString
import Derived.ChangeOld
import Derived.Below
import Derived.Lib.Hide
import Derived.BigQuiet
import Derived.Deep.QuietTactic
import Derived.WalkLawsBesides
import Derived.Outline
import Derived.Deep.QuietTactic
import Derived.BigQuiet
import Derived.Deep.LoopGhost
namespace Go.Proofs.Ythnifmgjgdmmoaa.mean
open Go.ChangeShapes Go.WideShapes Go.ChangeAt Go.RowKit
open Go.ChangeMaps (open_string shut_string)
set_option linter.unusedVariables false
open Go Ieee Go.RowKit
open Go.Proofs.Ythnifmgjgdmmoaa.slc Go.Proofs.Ythnifmgjgdmmoaa.small Go.Proofs.Ythnifmgjgdmmoaa.floats Go.Proofs.Ythnifmgjgdmmoaa.round Go.Proofs.Ythnifmgjgdmmoaa.values Go.Proofs.Ythnifmgjgdmmoaa.conv Go.Proofs.Ythnifmgjgdmmoaa.fWalk Go.Proofs.Ythnifmgjgdmmoaa.cut Go.Proofs.Ythnifmgjgdmmoaa.listF Go.Proofs.Ythnifmgjgdmmoaa.peak Go.Proofs.Ythnifmgjgdmmoaa.float2 Go.Proofs.Ythnifmgjgdmmoaa.float3 Go.Proofs.Ythnifmgjgdmmoaa.meanNum

theorem cvi64 (w : World) (n : Int) : (convert 3 41 (.int .i64 n)).run Try.prog w = .ok (.float .f64 (floatOfInt .f64 n)) w :=
  run_convert_int_float w _ _ .i64 .f64 n (by rw [Try.underlying3]; rfl) Try.underlying41
theorem cv6432 (w : World) (b : Nat) : (convert 41 37 (.float .f64 b)).run Try.prog w = .ok (.float .f32 (cval .f64 w b .f32)) (w.drewN (ccnt .f64 b .f32)) :=
  run_convff w _ _ .f64 .f32 b (by rw [Try.underlying41]; rfl) Try.underlying37
attribute [local go_sem] cvi64 cv6432 cv3264 run_fadd run_fquo

set_option maxHeartbeats 800000 in
theorem mean_spec (A : Option Addr) (n c B : Nat) (x : Nat → Nat) (w : World) (hn1 : 1 ≤ n) (hn : n ≤ 129) (hB : B ≤ w.heap.size) (ha : Rd w B A n (fl x)) :
    Calls Try.prog 36 #[.slice A n c] w fun e w' => ∃ r, e = .returned (.tuple #[.float .f32 r, .bool true]) ∧ can .f32 r = mnC x n ∧ w.grownBy w' none := by
  have hfin := fun v (h : can .f64 v = meanC x n) => mn_can hn1 hn h
  go_enter Try.func36, Try.ntmps36
  go_wp2_with fail
  refine (few_yes _ _ _ _ hn1 hn).mono ?_
  rintro e w' ⟨rfl, rfl⟩
  go_wp2_with fail
  go_loopw [4, 11] (fun s i wr => ∃ k v : Nat, k ≤ n ∧ i = .int .i64 k ∧ s = .float .f64 v ∧ can .f64 v = sumC x k ∧ w.grownBy wr none) (fun _ i _ => n - (intOf i).toNat)
  case atStart => exact ⟨0, 0, Nat.zero_le _, rfl, rfl, sum0 x, World.grownBy.refl _ _⟩
  case round =>
    obtain ⟨k, v, hk, rfl, rfl, hv, hg⟩ := hrel
    by_cases hlt : k < n
    · have hrd := ha.kept0 hg hB
      obtain ⟨ad, rfl, _, hc0⟩ := hrd.at_ hlt
      have hc : wr.cell? (ad.add k) = some (.float .f32 (x k)) := hc0
      have hk0 : (0 : Int) ≤ k := by omega
      have hk1 : (k : Int) < n := by omega
      have HV := Lib.hid hv
      clear hv hrd hc0 hfin
      go_wp2_with fail
      go_roundw
      case rel => exact ⟨k + 1, _, by omega, by go_num, rfl, step_can HV.out _ _, hg.trans (gb_drewN _ _ _)⟩
      case measure => simp [intOf]; omega
    · obtain rfl : k = n := by omega
      have HV := Lib.hid hv
      have HF := Lib.hid hfin
      clear hv hfin
      go_wp2_with fail
      go_ret2
      exact ⟨_, rfl, HF.out _ (mean_can HV.out _) _, hg.trans (gb_drewN _ _ _)⟩

set_option maxHeartbeats 800000 in
theorem mean_impl (A : Option Addr) (n c B : Nat) (x : Nat → Nat) (w : World) (hn1 : 1 ≤ n) (hn : n ≤ 129) (hB : B ≤ w.heap.size) (ha : Rd w B A n (fl x)) :
    Calls Try.prog 37 #[.slice A n c] w fun e w' => ∃ r, e = .returned (.tuple #[.float .f32 r, .bool true]) ∧ can .f32 r = mnC x n ∧ w.grownBy w' none := by
  have hfin := fun v (h : can .f64 v = meanC x n) => mn_can hn1 hn h
  go_enter Try.func37, Try.ntmps37
  go_wp2_with fail
  refine (cut_yes _ _ _ _ hn1 hn).mono ?_
  rintro e w' ⟨rfl, rfl⟩
  go_wp2_with fail
  go_loopw [4, 12] (fun s i wr => ∃ k v : Nat, k ≤ n ∧ i = .int .i64 k ∧ s = .float .f64 v ∧ can .f64 v = sumC x k ∧ w.grownBy wr none) (fun _ i _ => n - (intOf i).toNat)
  case atStart => exact ⟨0, 0, Nat.zero_le _, rfl, rfl, sum0 x, World.grownBy.refl _ _⟩
  case round =>
    obtain ⟨k, v, hk, rfl, rfl, hv, hg⟩ := hrel
    by_cases hlt : k < n
    · have hrd := ha.kept0 hg hB
      obtain ⟨ad, rfl, _, hc0⟩ := hrd.at_ hlt
      have hc : wr.cell? (ad.add k) = some (.float .f32 (x k)) := hc0
      have hk0 : (0 : Int) ≤ k := by omega
      have hk1 : (k : Int) < n := by omega
      have HV := Lib.hid hv
      clear hv hrd hc0 hfin
      go_wp2_with fail
      go_roundw
      case rel => exact ⟨k + 1, _, by omega, by go_num, rfl, step_can HV.out _ _, hg.trans (gb_drewN _ _ _)⟩
      case measure => simp [intOf]; omega
    · obtain rfl : k = n := by omega
      have HV := Lib.hid hv
      have HF := Lib.hid hfin
      clear hv hfin
      go_wp2_with fail
      go_ret2
      exact ⟨_, rfl, HF.out _ (mean_can HV.out _) _, hg.trans (gb_drewN _ _ _)⟩

theorem spec_m (A : Option Addr) (n c B : Nat) (x : Nat → Nat) (w : World) (hm : n ≤ 9223372036854775807) (hB : B ≤ w.heap.size) (ha : Rd w B A n (fl x)) :
    Calls Try.prog 36 #[.slice A n c] w fun e w' => ∃ r, e = .returned (.tuple #[.float .f32 r, .bool (mnR x n).2]) ∧ can .f32 r = (mnR x n).1 ∧ w.grownBy w' none := by
  by_cases h : 1 ≤ n ∧ n ≤ 129
  · have hR : mnR x n = (mnC x n, true) := by unfold mnR; rw [if_pos h]
    rw [hR]
    exact mean_spec A n c B x w h.1 h.2 hB ha
  · have hR : mnR x n = (can .f32 0, false) := by unfold mnR; rw [if_neg h]
    rw [hR]
    clear hR ha
    go_enter Try.func36, Try.ntmps36
    go_wp2_with fail
    refine (few_no _ _ _ _ (by omega) hm).mono ?_
    rintro e w' ⟨rfl, rfl⟩
    go_wp2_with fail
    go_ret2
    exact ⟨_, rfl, rfl, World.grownBy.refl _ _⟩
theorem impl_m (A : Option Addr) (n c B : Nat) (x : Nat → Nat) (w : World) (hm : n ≤ 9223372036854775807) (hB : B ≤ w.heap.size) (ha : Rd w B A n (fl x)) :
    Calls Try.prog 37 #[.slice A n c] w fun e w' => ∃ r, e = .returned (.tuple #[.float .f32 r, .bool (mnR x n).2]) ∧ can .f32 r = (mnR x n).1 ∧ w.grownBy w' none := by
  by_cases h : 1 ≤ n ∧ n ≤ 129
  · have hR : mnR x n = (mnC x n, true) := by unfold mnR; rw [if_pos h]
    rw [hR]
    exact mean_impl A n c B x w h.1 h.2 hB ha
  · have hR : mnR x n = (can .f32 0, false) := by unfold mnR; rw [if_neg h]
    rw [hR]
    clear hR ha
    go_enter Try.func37, Try.ntmps37
    go_wp2_with fail
    refine (cut_no _ _ _ _ (by omega) hm).mono ?_
    rintro e w' ⟨rfl, rfl⟩
    go_wp2_with fail
    go_ret2
    exact ⟨_, rfl, rfl, World.grownBy.refl _ _⟩

end Go.Proofs.Ythnifmgjgdmmoaa.mean
