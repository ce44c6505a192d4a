/- Tenths of decibels are not great. -/
import Derived.Test.YthnifmgjgdmmoaaRows
import Derived.Test.YthnifmgjgdmmoaaFloats
import Derived.Test.YthnifmgjgdmmoaaRound
import Derived.Test.YthnifmgjgdmmoaaValues
import Derived.Test.YthnifmgjgdmmoaaConv
import Derived.Test.YthnifmgjgdmmoaaFWalk
import Derived.Test.YthnifmgjgdmmoaaFinWalk
import Derived.Test.YthnifmgjgdmmoaaFloat2
import Derived.Test.YthnifmgjgdmmoaaFloat3
import Derived.Test.YthnifmgjgdmmoaaPhase
import Derived.Test.YthnifmgjgdmmoaaSine
import Derived.Test.YthnifmgjgdmmoaaFinBoth
import Derived.Test.YthnifmgjgdmmoaaLogNum
import Derived.Test.YthnifmgjgdmmoaaLogWalk
import Derived.Test.YthnifmgjgdmmoaaTenths
import Derived.Test.YthnifmgjgdmmoaaTenths2
import Derived.Test.YthnifmgjgdmmoaaTenths3
import Derived.WalkKit
import Derived.ProofKit
import Derived.OpenShut
import Derived.ShutString
import Derived.ChangeOld
import Derived.Below
import Derived.Lib.Hide
import Derived.BigQuiet
import Derived.Deep.QuietTactic
import Derived.WalkLawsBesides
import Derived.Outline
namespace Go.Proofs.Ythnifmgjgdmmoaa.tenthsBd
open Go.ChangeShapes Go.WideShapes Go.ChangeAt Go.RowKit
open Go.ChangeMaps (open_string shut_string)
set_option linter.unusedVariables false
open Go Ieee
open Go.Proofs.Ythnifmgjgdmmoaa.floats Go.Proofs.Ythnifmgjgdmmoaa.round Go.Proofs.Ythnifmgjgdmmoaa.values Go.Proofs.Ythnifmgjgdmmoaa.conv Go.Proofs.Ythnifmgjgdmmoaa.fWalk Go.Proofs.Ythnifmgjgdmmoaa.finWalk Go.Proofs.Ythnifmgjgdmmoaa.float2 Go.Proofs.Ythnifmgjgdmmoaa.float3 Go.Proofs.Ythnifmgjgdmmoaa.phase Go.Proofs.Ythnifmgjgdmmoaa.sine Go.Proofs.Ythnifmgjgdmmoaa.finBoth Go.Proofs.Ythnifmgjgdmmoaa.logNum Go.Proofs.Ythnifmgjgdmmoaa.logWalk Go.Proofs.Ythnifmgjgdmmoaa.tenths Go.Proofs.Ythnifmgjgdmmoaa.tenths2 Go.Proofs.Ythnifmgjgdmmoaa.tenths3

theorem hrun_inv : ∀ k i y, Hw y k → ∃ i' y', hrun (k + 1) i y = (i', y') ∧ i' ≤ i + k ∧ Dw y' 149
  | 0, i, y, h => by
    have h1 := h_end h
    refine ⟨i, y, ?_, by omega, h.nrm, h1, h.lo⟩
    unfold hrun
    rw [if_neg (by omega)]
  | k + 1, i, y, h => by
    by_cases hge : 6 * (q64 : Int) ≤ V double y
    · obtain ⟨_, a2⟩ := h_step h hge
      obtain ⟨i', y', e, hi, hd⟩ := hrun_inv k (i + 1) (hf y) a2
      refine ⟨i', y', ?_, by omega, hd⟩
      rw [← e]
      show (if 6 * (q64 : Int) ≤ V double y then hrun (k + 1) (i + 1) (hf y) else (i, y)) = _
      rw [if_pos hge]
    · refine ⟨i, y, ?_, by omega, h.nrm, by omega, h.lo⟩
      show (if 6 * (q64 : Int) ≤ V double y then hrun (k + 1) (i + 1) (hf y) else (i, y)) = _
      rw [if_neg hge]
theorem drun_inv : ∀ k i y, Dw y k → ∃ i' y', drun (k + 1) i y = (i', y') ∧ i' ≤ i + k ∧ Nrm y' ∧ V double y' < 6 * (q64 : Int) ∧ 3 * (q64 : Int) ≤ V double y'
  | 0, i, y, h => by
    have h1 := d_end h
    refine ⟨i, y, ?_, by omega, h.nrm, h.up, h1⟩
    unfold drun
    rw [if_neg (by omega)]
  | k + 1, i, y, h => by
    by_cases hge : V double y < 3 * (q64 : Int)
    · obtain ⟨_, a2⟩ := d_step h hge
      obtain ⟨i', y', e, hi, hd⟩ := drun_inv k (i + 1) (df y) a2
      refine ⟨i', y', ?_, by omega, hd⟩
      rw [← e]
      show (if V double y < 3 * (q64 : Int) then drun (k + 1) (i + 1) (df y) else (i, y)) = _
      rw [if_pos hge]
    · refine ⟨i, y, ?_, by omega, h.nrm, h.up, by omega⟩
      show (if V double y < 3 * (q64 : Int) then drun (k + 1) (i + 1) (df y) else (i, y)) = _
      rw [if_neg hge]
theorem tn_bd {p : Nat} (hwf : (Lit.float .f32 p).wf = true) (h : tnOk p = true) : -9000000 ≤ tnI p ∧ tnI p ≤ 9000000 := by
  unfold tnOk at h
  rw [Bool.and_eq_true, decide_eq_true_eq, decide_eq_true_eq] at h
  obtain ⟨_, hw2⟩ := wl_ok hwf h.1 h.2
  obtain ⟨i, y, hE, hi, hd⟩ := hrun_inv 128 0 (wl p) hw2
  obtain ⟨j, z, hE2, hj, n1, n2, n3⟩ := drun_inv 149 0 y hd
  have hres : tnI p = fli (t2 z ((i : Int) - (j : Int))) := by
    unfold tnI e2 e1
    rw [hE]; dsimp only; rw [hE2]
  obtain ⟨_, _, _, y4, _, y6⟩ := y_ok n1 n3 n2
  obtain ⟨_, _, _, _, _, _, l7⟩ := l_ok (e := (i : Int) - (j : Int)) y4 y6 (by omega)
  rw [hres]
  exact ⟨(fli_ok l7).1, (fli_ok l7).2.1⟩

theorem pos_call (p : Nat) (w : World) : Calls Try.prog 78 #[.float .f32 p] w fun e w' => e = .returned (.bool (tnOk p)) ∧ ∃ n, w.drewN n = w' := by
  by_cases hx : FinW single p
  · have hf := fun w => spec_l01 p w true (fun w => sub_b true (by simp [hx]) w)
    by_cases hp : 0 < V single p
    · have hA : tnOk p = true := by unfold tnOk; rw [Bool.and_eq_true, decide_eq_true_eq, decide_eq_true_eq]; exact ⟨hx, hp⟩
      rw [hA]
      have ho : FloatKind.f32.format.order p 0 = some .gt := by rw [ord0 hx, Int.compare_eq_gt.2 hp]
      clear hA hx hp
      go_enter Try.func78, Try.ntmps78
      go_wp2_with fail
      refine (hf _).mono ?_
      rintro e w' ⟨rfl, n, rfl⟩
      go_wp2_with fail
      go_ret
      exact ⟨rfl, _, rfl⟩
    · have hA : tnOk p = false := by
        unfold tnOk; rw [Bool.and_eq_false_iff, decide_eq_false_iff_not, decide_eq_false_iff_not]; exact .inr hp
      rw [hA]
      have ho : (FloatKind.f32.format.order p 0 == some .gt) = false := by
        rw [ord0 hx]
        have : compare (V single p) 0 ≠ .gt := by rw [Ne, Int.compare_eq_gt]; omega
        simpa using this
      clear hA hx hp
      go_enter Try.func78, Try.ntmps78
      go_wp2_with fail
      refine (hf _).mono ?_
      rintro e w' ⟨rfl, n, rfl⟩
      go_wp2_with fail
      go_ret
      exact ⟨rfl, _, rfl⟩
  · have hf := fun w => spec_l01 p w false (fun w => sub_b false (by simp [hx]) w)
    have hA : tnOk p = false := by
      unfold tnOk; rw [Bool.and_eq_false_iff, decide_eq_false_iff_not, decide_eq_false_iff_not]; exact .inl hx
    rw [hA]
    clear hA hx
    go_enter Try.func78, Try.ntmps78
    go_wp2_with fail
    refine (hf _).mono ?_
    rintro e w' ⟨rfl, n, rfl⟩
    go_wp2_with fail
    go_ret
    exact ⟨rfl, _, rfl⟩
theorem l01_ok (p : Nat) (w : World) (hwf : (Lit.float .f32 p).wf = true) (h : tnOk p = true) :
    Calls Try.prog 79 #[.float .f32 p] w fun e w' => e = .returned (.int .i64 (tnI p)) ∧ w = w' := by
  unfold tnOk at h
  rw [Bool.and_eq_true, decide_eq_true_eq, decide_eq_true_eq] at h
  exact tn_l01 p w hwf h.1 h.2
theorem max_call (a b : Int) (w : World) : Calls Try.prog 80 #[.int .i64 a, .int .i64 b] w fun e w' => e = .returned (.int .i64 (if b < a then a else b)) ∧ w = w' := by
  by_cases h : b < a
  · rw [if_pos h]
    go_enter Try.func80, Try.ntmps80
    go_wp2
    go_ret
    exact ⟨rfl, rfl⟩
  · rw [if_neg h]
    have h' : a ≤ b := by omega
    go_enter Try.func80, Try.ntmps80
    go_wp2
    go_ret
    exact ⟨rfl, rfl⟩
/-- A level. -/
def lv (t p : Int) : Int := if p - t < -2000 then -2000 else p - t
def lvl (x : Nat → Nat) (t : Int) (k : Nat) : Int := if tnOk (x k) = true then lv t (tnI (x k)) else -2000
def lvs (x : Nat → Nat) (t : Int) (k : Nat) : List Int := (List.range k).map (lvl x t)
theorem lvs_len (x : Nat → Nat) (t : Int) (k : Nat) : (lvs x t k).length = k := by simp [lvs]
theorem lvs_succ (x : Nat → Nat) (t : Int) (k : Nat) : lvs x t (k + 1) = lvs x t k ++ [lvl x t k] := by simp [lvs, List.range_succ]

end Go.Proofs.Ythnifmgjgdmmoaa.tenthsBd
