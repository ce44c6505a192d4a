/- Whether a 32-bit number is finite, by the program and by the model. -/
import Derived.Test.YtabbfpjngbiohaaRows
import Derived.Test.YtabbfpjngbiohaaFloats
import Derived.Test.YtabbfpjngbiohaaRound
import Derived.Test.YtabbfpjngbiohaaValues
import Derived.Test.YtabbfpjngbiohaaConv
import Derived.Test.YtabbfpjngbiohaaFWalk
import Derived.Test.YtabbfpjngbiohaaFinWalk
import Derived.WalkKit
import Derived.ProofKit
import Derived.OpenShut
import Derived.ShutString
import Derived.ChangeOld
import Derived.Below
import Derived.Lib.Hide
import Derived.BigQuiet
import Derived.Deep.QuietTactic
import Derived.WalkLawsBesides
import Derived.Outline
namespace Go.Proofs.Ytabbfpjngbiohaa.finBoth
open Go.ChangeShapes Go.WideShapes Go.ChangeAt Go.RowKit
open Go.ChangeMaps (open_string shut_string)
set_option linter.unusedVariables false
open Ieee
open Go.Proofs.Ytabbfpjngbiohaa.floats Go.Proofs.Ytabbfpjngbiohaa.round Go.Proofs.Ytabbfpjngbiohaa.values Go.Proofs.Ytabbfpjngbiohaa.conv Go.Proofs.Ytabbfpjngbiohaa.fWalk Go.Proofs.Ytabbfpjngbiohaa.finWalk
theorem cv3264 (w : World) (b : Nat) : (convert 29 32 (.float .f32 b)).run Try.prog w = .ok (.float .f64 (cval .f32 w b .f64)) (w.drewN (ccnt .f32 b .f64)) :=
  run_convff w _ _ .f32 .f64 b (by rw [Try.underlying29]; rfl) Try.underlying32
attribute [local go_sem] cv3264 run_fsub
theorem below_drewN (w : World) (n : Nat) : Below w.heap.size w (w.drewN n) := ⟨rfl, rfl, rfl, Nat.le_refl _, fun _ _ => rfl⟩
theorem widen_lt (x : Nat) (w : World) (hx : (Lit.float .f32 x).wf = true) : ((cval .f32 w x .f64 : Nat) : Int) ≤ 18446744073709551615 := by
  have : cval .f32 w x .f64 < 18446744073709551616 := by
    unfold cval
    cases h : floatToFloatBits .f32 x .f64 with
    | some r => have := floatToFloatBits_wf hx h; simpa [Lit.wf] using this
    | none =>
      unfold convQ
      cases FloatKind.f32.decode x <;> simp only [Question.cut] <;> omega
  omega
theorem widen_fin (x : Nat) (w : World) : FinW double (cval .f32 w x .f64) ↔ FinW single x := by
  constructor
  · intro h
    rcases kinds32 x with h1 | ⟨s, h1, _⟩ | h1
    · exact h1
    · have e : floatToFloatBits .f32 x .f64 = some (FloatKind.f64.encode (.infinity s)) := by
        unfold floatToFloatBits
        rw [if_neg (by decide)]
        show (match single.read x with | .nan _ _ => none | .infinity s => some (FloatKind.f64.encode (.infinity s)) | .number s m e => if (FloatKind.f64.decode (FloatKind.f64.encode (.number s m e))).isInfinity then none else some (FloatKind.f64.encode (.number s m e))) = _
        rw [h1]
      have e2 : cval .f32 w x .f64 = FloatKind.f64.encode (.infinity s) := by unfold cval; rw [e]
      rw [e2] at h
      exfalso
      unfold FinW rg at h; rw [sw64, inf64] at h
      cases s
      · exact absurd h (by decide +kernel)
      · exact absurd h (by decide +kernel)
    · have := widen_nan w x
      rw [h1, fin_not_nan (k := .f64) h] at this
      cases this
  · intro h
    obtain ⟨r, hr, hrr⟩ := widen_rnd h
    have e : cval .f32 w x .f64 = r := by unfold cval; rw [hr]
    rw [e]; exact hrr.fin

theorem sub_zero {x : Nat} (h : FinW single x) (w : World) : (FloatKind.f32.format.order (fval .sub .f32 w x x) 0 == some .eq) = true := by
  obtain ⟨r, hr, hrr⟩ := sub_rnd single h h (hi := 0) (by rw [inf32]; decide) (by simp)
  have e : fval .sub .f32 w x x = r := by unfold fval floatBits; rw [fmt32, hr]
  have hz : FinW single 0 := by unfold FinW rg; rw [sw32, inf32]; decide
  have v0 : V single 0 = 0 := by decide +kernel
  have h1 := hrr.le 0 hz (by rw [v0]; simp)
  have h2 := hrr.ge 0 hz (by rw [v0]; simp)
  rw [v0] at h1 h2
  have hv : V single r = 0 := by omega
  rw [e]
  show (single.order r 0 == _) = true
  rw [order_fin single hrr.fin hz, hv, v0]; rfl
theorem sub_not {x : Nat} (h : ¬ FinW single x) (w : World) : (FloatKind.f32.format.order (fval .sub .f32 w x x) 0 == some .eq) = false := by
  have hb : floatBits .sub .f32 x x = none := by
    rcases kinds32 x with h1 | ⟨s, h1, _⟩ | h1
    · exact absurd h1 h
    · show single.sub x x = none
      unfold Format.sub; rw [h1]; cases s <;> rfl
    · exact floatBits_nan_l h1
  have hn : isNaN .f32 (fval .sub .f32 w x x) = true := by
    unfold fval; rw [hb]; exact nanBits_nan .f32 x x _
  rw [order_nan_l hn]; rfl

theorem impl_any (x : Nat) (w : World) (hx : (Lit.float .f32 x).wf = true) (b : Bool) (hb : b = true ↔ FinW single x) :
    Calls Try.prog 92 #[.float .f32 x] w fun e w' => e = .returned (.bool b) ∧ ∃ n, w.drewN n = w' := by
  have hl := fun w => widen_lt x w hx
  go_enter Try.func92, Try.ntmps92
  go_wp2_with fail
  cases b
  · refine (fin_no _ _ (hl _) (by rw [widen_fin, ← hb]; simp)).mono ?_
    rintro e w' ⟨rfl, rfl⟩
    clear hb
    go_wp2_with fail
    go_ret
    exact ⟨rfl, _, rfl⟩
  · refine (fin_yes _ _ (hl _) (by rw [widen_fin, ← hb])).mono ?_
    rintro e w' ⟨rfl, rfl⟩
    clear hb
    go_wp2_with fail
    go_ret
    exact ⟨rfl, _, rfl⟩

end Go.Proofs.Ytabbfpjngbiohaa.finBoth
