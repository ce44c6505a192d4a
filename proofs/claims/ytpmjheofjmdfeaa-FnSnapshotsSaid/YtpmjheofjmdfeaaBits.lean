/- The bits of a number, in the program and in the model. -/
import Derived.Test.YtpmjheofjmdfeaaRows
import Derived.Test.YtpmjheofjmdfeaaFloatAll
import Derived.Test.YtpmjheofjmdfeaaFWalk
import Derived.WalkKit
import Derived.ProofKit
import Derived.OpenShut
import Derived.ShutString
import Derived.ChangeOld
import Derived.Below
import Derived.Lib.Hide
import Derived.BigQuiet
import Derived.Deep.QuietTactic
import Derived.WalkLawsBesides
import Derived.Outline
namespace Go.Proofs.Ytpmjheofjmdfeaa.bits
open Go.ChangeShapes Go.WideShapes Go.ChangeAt Go.RowKit
open Go.ChangeMaps (open_string shut_string)
set_option linter.unusedVariables false
open Go Ieee
open Go.Proofs.Ytpmjheofjmdfeaa.floats Go.Proofs.Ytpmjheofjmdfeaa.round Go.Proofs.Ytpmjheofjmdfeaa.values Go.Proofs.Ytpmjheofjmdfeaa.conv Go.Proofs.Ytpmjheofjmdfeaa.fWalk

theorem cv3264 (w : World) (b : Nat) : (convert 35 80 (.float .f32 b)).run Try.prog w = .ok (.float .f64 (cval .f32 w b .f64)) (w.drewN (ccnt .f32 b .f64)) :=
  run_convff w _ _ .f32 .f64 b (by rw [Try.underlying35]; rfl) Try.underlying80

attribute [local go_sem] cv3264 c_f32bits

theorem wf32 {x : Nat} (h : (Lit.float .f32 x).wf = true) : (x : Int) ≤ 4294967295 := by
  simp [Lit.wf] at h; omega

theorem spec_bits (x : Nat) (w : World) (hx : (x : Int) ≤ 4294967295) : Calls Try.prog 248 #[.float .f32 x] w fun e w' => e = .returned (.int .i64 (can .f32 x)) ∧ w = w' := by
  have h0 : (0 : Int) ≤ x := by omega
  by_cases hn : isNaN .f32 x = true
  · have hc : Hid (can .f32 x = 2143289344) := Lib.hid (can_of_nan hn)
    have ho : (FloatKind.f32.format.order x x != some .eq) = true := by rw [order_self, hn]
    clear hn
    go_enter Try.func248, Try.ntmps248
    go_wp2
    go_ret
    exact ⟨by rw [hc.out]; rfl, rfl⟩
  · have hn' : isNaN .f32 x = false := by simpa using hn
    have hc : Hid (can .f32 x = x) := Lib.hid (can_of_not hn')
    have ho : (FloatKind.f32.format.order x x != some .eq) = false := by rw [order_self, hn']
    clear hn hn'
    go_enter Try.func248, Try.ntmps248
    go_wp2
    go_ret
    exact ⟨by rw [hc.out]; rfl, rfl⟩

theorem impl_bits (x : Nat) (w : World) (hx : (x : Int) ≤ 4294967295) : Calls Try.prog 216 #[.float .f32 x] w fun e w' => e = .returned (.int .i64 (can .f32 x)) ∧ ∃ n, w.drewN n = w' := by
  have h0 : (0 : Int) ≤ x := by omega
  by_cases hn : isNaN .f32 x = true
  · have hc : Hid (can .f32 x = 2143289344) := Lib.hid (can_of_nan hn)
    have ho : ∀ w, isNaN .f64 (cval .f32 w x .f64) = true := fun w => by rw [widen_nan, hn]
    clear hn
    go_enter Try.func216, Try.ntmps216
    go_wp2_with (go_at_call 259; refine (isnan_call _ _).mono ?_; rintro e w' ⟨rfl, rfl⟩)
    go_ret
    exact ⟨by rw [hc.out]; rfl, _, rfl⟩
  · have hn' : isNaN .f32 x = false := by simpa using hn
    have hc : Hid (can .f32 x = x) := Lib.hid (can_of_not hn')
    have ho : ∀ w, isNaN .f64 (cval .f32 w x .f64) = false := fun w => by rw [widen_nan, hn']
    clear hn hn'
    go_enter Try.func216, Try.ntmps216
    go_wp2_with (go_at_call 259; refine (isnan_call _ _).mono ?_; rintro e w' ⟨rfl, rfl⟩)
    go_ret
    exact ⟨by rw [hc.out]; rfl, _, rfl⟩

end Go.Proofs.Ytpmjheofjmdfeaa.bits
