/- Float operations in a walk; the small functions on floats that laws call. -/
import Derived.Test.YthlfclnfkgiddaaRows
import Derived.Test.YthlfclnfkgiddaaFloats
import Derived.Test.YthlfclnfkgiddaaRound
import Derived.Test.YthlfclnfkgiddaaValues
import Derived.Test.YthlfclnfkgiddaaConv
import Derived.WalkKit
import Derived.ProofKit
import Derived.OpenShut
import Derived.ShutString
import Derived.ChangeOld
import Derived.Below
import Derived.Lib.Hide
import Derived.BigQuiet
import Derived.Deep.QuietTactic
import Derived.WalkLawsBesides
import Derived.Outline
namespace Go.Proofs.Ythlfclnfkgiddaa.fWalk
open Go.ChangeShapes Go.WideShapes Go.ChangeAt Go.RowKit
open Go.ChangeMaps (open_string shut_string)
set_option linter.unusedVariables false
open Go Ieee
open Go.Proofs.Ythlfclnfkgiddaa.floats Go.Proofs.Ythlfclnfkgiddaa.round Go.Proofs.Ythlfclnfkgiddaa.values Go.Proofs.Ythlfclnfkgiddaa.conv

section
variable {P : Program} (w : World) (t : TypeId) (k : FloatKind) (x y : Nat)
theorem run_fadd : (binOp .add t (.float k x) (.float k y)).run P w = .ok (.float k (fval .add k w x y)) (w.drewN (fcnt .add k x y)) := run_floatop w .add t k x y rfl
theorem run_fsub : (binOp .sub t (.float k x) (.float k y)).run P w = .ok (.float k (fval .sub k w x y)) (w.drewN (fcnt .sub k x y)) := run_floatop w .sub t k x y rfl
theorem run_fmul : (binOp .mul t (.float k x) (.float k y)).run P w = .ok (.float k (fval .mul k w x y)) (w.drewN (fcnt .mul k x y)) := run_floatop w .mul t k x y rfl
theorem run_fquo : (binOp .quo t (.float k x) (.float k y)).run P w = .ok (.float k (fval .quo k w x y)) (w.drewN (fcnt .quo k x y)) := run_floatop w .quo t k x y rfl
end

theorem widen_nan (w : World) (x : Nat) : isNaN .f64 (cval .f32 w x .f64) = isNaN .f32 x := by
  rcases kinds32 x with h | ⟨s, h, _⟩ | h
  · obtain ⟨r, hr, hrr⟩ := widen_rnd h
    have e : cval .f32 w x .f64 = r := by unfold cval; rw [hr]
    rw [e, fin_not_nan (k := .f64) hrr.fin, fin_not_nan (k := .f32) h]
  · have e : floatToFloatBits .f32 x .f64 = some (FloatKind.f64.encode (.infinity s)) := by
      unfold floatToFloatBits
      rw [if_neg (by decide)]
      show (match single.read x with | .nan _ _ => none | .infinity s => some (FloatKind.f64.encode (.infinity s)) | .number s m e => if (FloatKind.f64.decode (FloatKind.f64.encode (.number s m e))).isInfinity then none else some (FloatKind.f64.encode (.number s m e))) = _
      rw [h]
    have e2 : cval .f32 w x .f64 = FloatKind.f64.encode (.infinity s) := by unfold cval; rw [e]
    have e3 : isNaN .f32 x = false := by show (single.read x).isNaN = false; rw [h]; rfl
    rw [e2, e3]; cases s <;> decide +kernel
  · have e : isNaN .f64 (can .f64 (cval .f32 w x .f64)) = true := by
      rw [can_cval (.inl h) (by decide)]
      have e4 : floatToFloatBits .f32 x .f64 = none := by
        unfold floatToFloatBits
        rw [if_neg (by decide)]
        have h' : (FloatKind.f32.decode x).isNaN = true := h
        revert h'
        cases FloatKind.f32.decode x <;> simp [Datum.isNaN]
      unfold cop; rw [e4]; exact isNaN_nan _
    rw [isNaN_can] at e
    rw [e, h]

theorem isnan_call : True := trivial





theorem quo_order (w : World) (a : Nat) : FloatKind.f64.format.order (fval .quo .f64 w 4607182418800017408 a) 0 = FloatKind.f64.format.order (fop .quo .f64 4607182418800017408 a) 0 := by
  rw [← order_can_l, can_fval]
section
attribute [local go_sem] run_fquo
set_option maxHeartbeats 400000 in
theorem same_float (a b : Nat) (w : World) (h : can .f64 a = can .f64 b) : Calls Try.prog 21 #[.float .f64 a, .float .f64 b] w fun e w' => e = .returned (.bool true) ∧ ∃ n, w.drewN n = w' := by
  rcases can_eq_iff.1 h with h | ⟨h1, h2⟩
  · subst h
    clear h
    by_cases hn : isNaN .f64 a = true
    · have ho : (FloatKind.f64.format.order a a != some .eq) = true := by rw [order_self, hn]
      clear hn
      go_enter Try.func21, Try.ntmps21
      go_wp2
      go_ret
      exact ⟨rfl, 0, rfl⟩
    · have ho : FloatKind.f64.format.order a a = some .eq := order_refl (by simpa using hn)
      clear hn
      have hq : ∀ w, FloatKind.f64.format.order (fval .quo .f64 w 4607182418800017408 a) 0 = FloatKind.f64.format.order (fop .quo .f64 4607182418800017408 a) 0 := fun w => quo_order w a
      generalize FloatKind.f64.format.order (fop .quo .f64 4607182418800017408 a) 0 = O at hq
      by_cases hz : (FloatKind.f64.format.order a 0 == some .eq) = true
      · go_enter Try.func21, Try.ntmps21
        go_wp2
        go_ret
        exact ⟨by simp, _, rfl⟩
      · have hz' : (FloatKind.f64.format.order a 0 == some .eq) = false := by simpa using hz
        clear hz
        go_enter Try.func21, Try.ntmps21
        go_wp2
        go_ret
        exact ⟨rfl, 0, rfl⟩
  · have ho : (FloatKind.f64.format.order a a != some .eq) = true := by rw [order_self, h1]
    have ho2 : (FloatKind.f64.format.order b b != some .eq) = true := by rw [order_self, h2]
    clear h1 h2 h
    go_enter Try.func21, Try.ntmps21
    go_wp2
    go_ret
    exact ⟨rfl, 0, rfl⟩
end

end Go.Proofs.Ythlfclnfkgiddaa.fWalk
