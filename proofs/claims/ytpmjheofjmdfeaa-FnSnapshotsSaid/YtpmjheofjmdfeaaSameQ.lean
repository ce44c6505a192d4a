/- Complex numbers that are the same finite words are the same, and nothing else turns. -/
import Derived.Test.YtpmjheofjmdfeaaRows
import Derived.Test.YtpmjheofjmdfeaaSlc
import Derived.Test.YtpmjheofjmdfeaaFloatAll
import Derived.Test.YtpmjheofjmdfeaaFWalk
import Derived.Test.YtpmjheofjmdfeaaFlAll
import Derived.Test.YtpmjheofjmdfeaaPhasor
import Derived.Test.YtpmjheofjmdfeaaListC
import Derived.Test.YtpmjheofjmdfeaaBits
import Derived.WalkKit
import Derived.ProofKit
import Derived.OpenShut
import Derived.ShutString
import Derived.ChangeOld
import Derived.Below
import Derived.Lib.Hide
import Derived.BigQuiet
import Derived.Deep.QuietTactic
import Derived.WalkLawsBesides
import Derived.Outline
namespace Go.Proofs.Ytpmjheofjmdfeaa.sameQ
open Go.ChangeShapes Go.WideShapes Go.ChangeAt Go.RowKit
open Go.ChangeMaps (open_string shut_string)
set_option linter.unusedVariables false
open Go Ieee
open Go.Proofs.Ytpmjheofjmdfeaa.slc Go.Proofs.Ytpmjheofjmdfeaa.floats Go.Proofs.Ytpmjheofjmdfeaa.round Go.Proofs.Ytpmjheofjmdfeaa.values Go.Proofs.Ytpmjheofjmdfeaa.conv Go.Proofs.Ytpmjheofjmdfeaa.fWalk Go.Proofs.Ytpmjheofjmdfeaa.listC Go.Proofs.Ytpmjheofjmdfeaa.bits

theorem cv3264 (w : World) (b : Nat) : (convert 35 80 (.float .f32 b)).run Try.prog w = .ok (.float .f64 (cval .f32 w b .f64)) (w.drewN (ccnt .f32 b .f64)) :=
  run_convff w _ _ .f32 .f64 b (by rw [Try.underlying35]; rfl) Try.underlying80
attribute [local go_sem] cv3264 c_f32bits
theorem ccnt_fin {x : Nat} (h : FinW single x) : ccnt .f32 x .f64 = 0 := by
  obtain ⟨r, hr, _⟩ := widen_rnd h
  unfold ccnt
  rw [hr]
  rfl
theorem bits_q (x : Nat) (w : World) (hx : (x : Int) ≤ 4294967295) (hf : FinW single x) : Calls Try.prog 216 #[.float .f32 x] w fun e w' => e = .returned (.int .i64 x) ∧ w = w' := by
  have h0 : (0 : Int) ≤ x := by omega
  have hn' : isNaN .f32 x = false := fin_not_nan (k := .f32) hf
  have ho : ∀ w, isNaN .f64 (cval .f32 w x .f64) = false := fun w => by rw [widen_nan, hn']
  have HC := Lib.hid (ccnt_fin hf)
  clear hn' hf
  go_enter Try.func216, Try.ntmps216
  go_wp2_with (go_at_call 259; refine (isnan_call _ _).mono ?_; rintro e w' ⟨rfl, rfl⟩)
  go_ret
  exact ⟨rfl, by rw [HC.out]; rfl⟩
theorem num_q (x : Nat) (w : World) (hx : (x : Int) ≤ 4294967295) (hf : FinW single x) : Calls Try.prog 138 #[.float .f32 x, .float .f32 x] w fun e w' => e = .returned (.bool true) ∧ w = w' := by
  go_enter Try.func138, Try.ntmps138
  go_wp2_with fail
  refine (bits_q x _ hx hf).mono ?_
  rintro e w' ⟨rfl, rfl⟩
  go_wp2_with fail
  refine (bits_q x _ hx hf).mono ?_
  rintro e w' ⟨rfl, rfl⟩
  go_wp2_with fail
  go_ret
  exact ⟨by simp, rfl⟩
theorem same_q (x y : Nat) (w : World) (hx : (x : Int) ≤ 4294967295) (hy : (y : Int) ≤ 4294967295) (fx : FinW single x) (fy : FinW single y) :
    Calls Try.prog 34 #[.complex .f32 x y, .complex .f32 x y] w fun e w' => e = .returned (.bool true) ∧ w = w' := by
  go_enter Try.func34, Try.ntmps34
  go_wp2_with fail
  refine (num_q x _ hx fx).mono ?_
  rintro e w' ⟨rfl, rfl⟩
  go_wp2_with fail
  refine (num_q y _ hy fy).mono ?_
  rintro e w' ⟨rfl, rfl⟩
  go_wp2_with fail
  go_ret
  exact ⟨rfl, rfl⟩

end Go.Proofs.Ytpmjheofjmdfeaa.sameQ
