/- Float operations in a walk; the small functions on floats that laws call. -/
import Derived.Test.YtjmgohlepglkoabRows
import Derived.Test.YtjmgohlepglkoabFloats
import Derived.Test.YtjmgohlepglkoabRound
import Derived.Test.YtjmgohlepglkoabValues
import Derived.Test.YtjmgohlepglkoabConv
import Derived.WalkKit
import Derived.ProofKit
import Derived.OpenShut
import Derived.ShutString
import Derived.ChangeOld
import Derived.Below
import Derived.Lib.Hide
import Derived.BigQuiet
import Derived.Deep.QuietTactic
import Derived.WalkLawsBesides
import Derived.Outline
namespace Go.Proofs.Ytjmgohlepglkoab.fWalk
open Go.ChangeShapes Go.WideShapes Go.ChangeAt Go.RowKit
open Go.ChangeMaps (open_string shut_string)
set_option linter.unusedVariables false
open Go Ieee
open Go.Proofs.Ytjmgohlepglkoab.floats Go.Proofs.Ytjmgohlepglkoab.round Go.Proofs.Ytjmgohlepglkoab.values Go.Proofs.Ytjmgohlepglkoab.conv

section
variable {P : Program} (w : World) (t : TypeId) (k : FloatKind) (x y : Nat)
theorem run_fadd : (binOp .add t (.float k x) (.float k y)).run P w = .ok (.float k (fval .add k w x y)) (w.drewN (fcnt .add k x y)) := run_floatop w .add t k x y rfl
theorem run_fsub : (binOp .sub t (.float k x) (.float k y)).run P w = .ok (.float k (fval .sub k w x y)) (w.drewN (fcnt .sub k x y)) := run_floatop w .sub t k x y rfl
theorem run_fmul : (binOp .mul t (.float k x) (.float k y)).run P w = .ok (.float k (fval .mul k w x y)) (w.drewN (fcnt .mul k x y)) := run_floatop w .mul t k x y rfl
theorem run_fquo : (binOp .quo t (.float k x) (.float k y)).run P w = .ok (.float k (fval .quo k w x y)) (w.drewN (fcnt .quo k x y)) := run_floatop w .quo t k x y rfl
end

theorem widen_nan (w : World) (x : Nat) : isNaN .f64 (cval .f32 w x .f64) = isNaN .f32 x := by
  rcases kinds32 x with h | ⟨s, h, _⟩ | h
  · obtain ⟨r, hr, hrr⟩ := widen_rnd h
    have e : cval .f32 w x .f64 = r := by unfold cval; rw [hr]
    rw [e, fin_not_nan (k := .f64) hrr.fin, fin_not_nan (k := .f32) h]
  · have e : floatToFloatBits .f32 x .f64 = some (FloatKind.f64.encode (.infinity s)) := by
      unfold floatToFloatBits
      rw [if_neg (by decide)]
      show (match single.read x with | .nan _ _ => none | .infinity s => some (FloatKind.f64.encode (.infinity s)) | .number s m e => if (FloatKind.f64.decode (FloatKind.f64.encode (.number s m e))).isInfinity then none else some (FloatKind.f64.encode (.number s m e))) = _
      rw [h]
    have e2 : cval .f32 w x .f64 = FloatKind.f64.encode (.infinity s) := by unfold cval; rw [e]
    have e3 : isNaN .f32 x = false := by show (single.read x).isNaN = false; rw [h]; rfl
    rw [e2, e3]; cases s <;> decide +kernel
  · have e : isNaN .f64 (can .f64 (cval .f32 w x .f64)) = true := by
      rw [can_cval (.inl h) (by decide)]
      have e4 : floatToFloatBits .f32 x .f64 = none := by
        unfold floatToFloatBits
        rw [if_neg (by decide)]
        have h' : (FloatKind.f32.decode x).isNaN = true := h
        revert h'
        cases FloatKind.f32.decode x <;> simp [Datum.isNaN]
      unfold cop; rw [e4]; exact isNaN_nan _
    rw [isNaN_can] at e
    rw [e, h]

theorem isnan_call (x : Nat) (w : World) : Calls Try.prog 142 #[.float .f64 x] w fun e w' => e = .returned (.bool (isNaN .f64 x)) ∧ w = w' := by
  go_enter Try.func142, Try.ntmps142
  go_wp2
  go_ret
  exact ⟨by rw [← order_self .f64 x]; rfl, rfl⟩

theorem c_f32bits (b : Nat) (w : World) : (callFunc 162 #[.float .f32 b]).run Try.prog w = .ok (.value (.int .u32 b)) w := by
  rw [run_callFunc_extern (fn := Try.f162) (e := Extern.MathFloatBits.float32bits) Try.func162 (by kernel_rfl) (by kernel_rfl) (by kernel_rfl) (by kernel_rfl)]
  rfl


theorem c_f64bits (b : Nat) (w : World) : (callFunc 145 #[.float .f64 b]).run Try.prog w = .ok (.value (.int .u64 b)) w := by
  rw [run_callFunc_extern (fn := Try.f145) (e := Extern.MathFloatBits.float64bits) Try.func145 (by kernel_rfl) (by kernel_rfl) (by kernel_rfl) (by kernel_rfl)]
  rfl

theorem c_f64from (n : Int) (w : World) : (callFunc 144 #[.int .u64 n]).run Try.prog w = .ok (.value (.float .f64 n.toNat)) w := by
  rw [run_callFunc_extern (fn := Try.f144) (e := Extern.MathFloatBits.float64frombits) Try.func144 (by kernel_rfl) (by kernel_rfl) (by kernel_rfl) (by kernel_rfl)]
  rfl


end Go.Proofs.Ytjmgohlepglkoab.fWalk
