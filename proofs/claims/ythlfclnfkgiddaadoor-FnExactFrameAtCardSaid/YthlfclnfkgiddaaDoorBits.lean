/- The bits of a number, in the program and in the model. -/
import Derived.Test.YthlfclnfkgiddaaDoorRows
import Derived.Test.YthlfclnfkgiddaaDoorFloats
import Derived.Test.YthlfclnfkgiddaaDoorRound
import Derived.Test.YthlfclnfkgiddaaDoorValues
import Derived.Test.YthlfclnfkgiddaaDoorConv
import Derived.Test.YthlfclnfkgiddaaDoorFWalk
import Derived.WalkKit
import Derived.ProofKit
import Derived.OpenShut
import Derived.ShutString
import Derived.ChangeOld
import Derived.Below
import Derived.Lib.Hide
import Derived.BigQuiet
import Derived.Deep.QuietTactic
import Derived.WalkLawsBesides
import Derived.Outline
namespace Go.Proofs.YthlfclnfkgiddaaDoor.bits
open Go.ChangeShapes Go.WideShapes Go.ChangeAt Go.RowKit
open Go.ChangeMaps (open_string shut_string)
set_option linter.unusedVariables false
open Go Ieee
open Go.Proofs.YthlfclnfkgiddaaDoor.floats Go.Proofs.YthlfclnfkgiddaaDoor.round Go.Proofs.YthlfclnfkgiddaaDoor.values Go.Proofs.YthlfclnfkgiddaaDoor.conv Go.Proofs.YthlfclnfkgiddaaDoor.fWalk

theorem cv3264 (w : World) (b : Nat) : (convert 140 163 (.float .f32 b)).run Tryd.prog w = .ok (.float .f64 (cval .f32 w b .f64)) (w.drewN (ccnt .f32 b .f64)) :=
  run_convff w _ _ .f32 .f64 b (by rw [Tryd.underlying140]; rfl) Tryd.underlying163

attribute [local go_sem] cv3264 c_f32bits

theorem wf32 {x : Nat} (h : (Lit.float .f32 x).wf = true) : (x : Int) ≤ 4294967295 := by
  simp [Lit.wf] at h; omega

theorem spec_bits (x : Nat) (w : World) (hx : (x : Int) ≤ 4294967295) : Calls Tryd.prog 154 #[.float .f32 x] w fun e w' => e = .returned (.int .i64 (can .f32 x)) ∧ w = w' := by
  have h0 : (0 : Int) ≤ x := by omega
  by_cases hn : isNaN .f32 x = true
  · have hc : Hid (can .f32 x = 2143289344) := Lib.hid (can_of_nan hn)
    have ho : (FloatKind.f32.format.order x x != some .eq) = true := by rw [order_self, hn]
    clear hn
    go_enter Tryd.func154, Tryd.ntmps154
    go_wp2
    go_ret
    exact ⟨by rw [hc.out]; rfl, rfl⟩
  · have hn' : isNaN .f32 x = false := by simpa using hn
    have hc : Hid (can .f32 x = x) := Lib.hid (can_of_not hn')
    have ho : (FloatKind.f32.format.order x x != some .eq) = false := by rw [order_self, hn']
    clear hn hn'
    go_enter Tryd.func154, Tryd.ntmps154
    go_wp2
    go_ret
    exact ⟨by rw [hc.out]; rfl, rfl⟩

theorem impl_bits (x : Nat) (w : World) (hx : (x : Int) ≤ 4294967295) : Calls Tryd.prog 111 #[.float .f32 x] w fun e w' => e = .returned (.int .i64 (can .f32 x)) ∧ ∃ n, w.drewN n = w' := by
  have h0 : (0 : Int) ≤ x := by omega
  by_cases hn : isNaN .f32 x = true
  · have hc : Hid (can .f32 x = 2143289344) := Lib.hid (can_of_nan hn)
    have ho : ∀ w, isNaN .f64 (cval .f32 w x .f64) = true := fun w => by rw [widen_nan, hn]
    clear hn
    go_enter Tryd.func111, Tryd.ntmps111
    go_wp2_with (go_at_call 139; refine (isnan_call _ _).mono ?_; rintro e w' ⟨rfl, rfl⟩)
    go_ret
    exact ⟨by rw [hc.out]; rfl, _, rfl⟩
  · have hn' : isNaN .f32 x = false := by simpa using hn
    have hc : Hid (can .f32 x = x) := Lib.hid (can_of_not hn')
    have ho : ∀ w, isNaN .f64 (cval .f32 w x .f64) = false := fun w => by rw [widen_nan, hn']
    clear hn hn'
    go_enter Tryd.func111, Tryd.ntmps111
    go_wp2_with (go_at_call 139; refine (isnan_call _ _).mono ?_; rintro e w' ⟨rfl, rfl⟩)
    go_ret
    exact ⟨by rw [hc.out]; rfl, _, rfl⟩

end Go.Proofs.YthlfclnfkgiddaaDoor.bits
