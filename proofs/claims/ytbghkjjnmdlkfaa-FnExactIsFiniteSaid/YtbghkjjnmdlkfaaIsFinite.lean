/- The law on IsFinite answers true at every number. No condition. -/
import Derived.Test.YtbghkjjnmdlkfaaRows
import Derived.Test.YtbghkjjnmdlkfaaFloats
import Derived.Test.YtbghkjjnmdlkfaaRound
import Derived.Test.YtbghkjjnmdlkfaaValues
import Derived.Test.YtbghkjjnmdlkfaaConv
import Derived.Test.YtbghkjjnmdlkfaaFWalk
import Derived.Test.YtbghkjjnmdlkfaaFinWalk
import Derived.WalkKit
import Derived.ProofKit
import Derived.OpenShut
import Derived.ShutString
import Derived.ChangeOld
import Derived.Below
import Derived.Lib.Hide
import Derived.BigQuiet
import Derived.Deep.QuietTactic
import Derived.WalkLawsBesides
import Derived.Outline
namespace Go.Proofs.Ytbghkjjnmdlkfaa.isFinite
open Go.ChangeShapes Go.WideShapes Go.ChangeAt Go.RowKit
open Go.ChangeMaps (open_string shut_string)
set_option linter.unusedVariables false
theorem own : ownKnob Try.prog.godebug = none := by kernel_rfl
theorem laidOut : laidOutB Try.prog = true := by kernel_rfl
open Ieee
open Go.Proofs.Ytbghkjjnmdlkfaa.floats Go.Proofs.Ytbghkjjnmdlkfaa.round Go.Proofs.Ytbghkjjnmdlkfaa.values Go.Proofs.Ytbghkjjnmdlkfaa.conv Go.Proofs.Ytbghkjjnmdlkfaa.fWalk Go.Proofs.Ytbghkjjnmdlkfaa.finWalk
theorem cv3264 (w : World) (b : Nat) : (convert 28 27 (.float .f32 b)).run Try.prog w = .ok (.float .f64 (cval .f32 w b .f64)) (w.drewN (ccnt .f32 b .f64)) :=
  run_convff w _ _ .f32 .f64 b (by rw [Try.underlying28]; rfl) Try.underlying27
attribute [local go_sem] cv3264 run_fsub
theorem below_drewN (w : World) (n : Nat) : Below w.heap.size w (w.drewN n) := ⟨rfl, rfl, rfl, Nat.le_refl _, fun _ _ => rfl⟩
theorem widen_lt (x : Nat) (w : World) (hx : (Lit.float .f32 x).wf = true) : ((cval .f32 w x .f64 : Nat) : Int) ≤ 18446744073709551615 := by
  have : cval .f32 w x .f64 < 18446744073709551616 := by
    unfold cval
    cases h : floatToFloatBits .f32 x .f64 with
    | some r => have := floatToFloatBits_wf hx h; simpa [Lit.wf] using this
    | none =>
      unfold convQ
      cases FloatKind.f32.decode x <;> simp only [Question.cut] <;> omega
  omega
theorem widen_fin (x : Nat) (w : World) : FinW double (cval .f32 w x .f64) ↔ FinW single x := by
  constructor
  · intro h
    rcases kinds32 x with h1 | ⟨s, h1, _⟩ | h1
    · exact h1
    · have e : floatToFloatBits .f32 x .f64 = some (FloatKind.f64.encode (.infinity s)) := by
        unfold floatToFloatBits
        rw [if_neg (by decide)]
        show (match single.read x with | .nan _ _ => none | .infinity s => some (FloatKind.f64.encode (.infinity s)) | .number s m e => if (FloatKind.f64.decode (FloatKind.f64.encode (.number s m e))).isInfinity then none else some (FloatKind.f64.encode (.number s m e))) = _
        rw [h1]
      have e2 : cval .f32 w x .f64 = FloatKind.f64.encode (.infinity s) := by unfold cval; rw [e]
      rw [e2] at h
      exfalso
      unfold FinW rg at h; rw [sw64, inf64] at h
      cases s
      · exact absurd h (by decide +kernel)
      · exact absurd h (by decide +kernel)
    · have := widen_nan w x
      rw [h1, fin_not_nan (k := .f64) h] at this
      cases this
  · intro h
    obtain ⟨r, hr, hrr⟩ := widen_rnd h
    have e : cval .f32 w x .f64 = r := by unfold cval; rw [hr]
    rw [e]; exact hrr.fin

theorem sub_zero {x : Nat} (h : FinW single x) (w : World) : (FloatKind.f32.format.order (fval .sub .f32 w x x) 0 == some .eq) = true := by
  obtain ⟨r, hr, hrr⟩ := sub_rnd single h h (hi := 0) (by rw [inf32]; decide) (by simp)
  have e : fval .sub .f32 w x x = r := by unfold fval floatBits; rw [fmt32, hr]
  have hz : FinW single 0 := by unfold FinW rg; rw [sw32, inf32]; decide
  have v0 : V single 0 = 0 := by decide +kernel
  have h1 := hrr.le 0 hz (by rw [v0]; simp)
  have h2 := hrr.ge 0 hz (by rw [v0]; simp)
  rw [v0] at h1 h2
  have hv : V single r = 0 := by omega
  rw [e]
  show (single.order r 0 == _) = true
  rw [order_fin single hrr.fin hz, hv, v0]; rfl
theorem sub_not {x : Nat} (h : ¬ FinW single x) (w : World) : (FloatKind.f32.format.order (fval .sub .f32 w x x) 0 == some .eq) = false := by
  have hb : floatBits .sub .f32 x x = none := by
    rcases kinds32 x with h1 | ⟨s, h1, _⟩ | h1
    · exact absurd h1 h
    · show single.sub x x = none
      unfold Format.sub; rw [h1]; cases s <;> rfl
    · exact floatBits_nan_l h1
  have hn : isNaN .f32 (fval .sub .f32 w x x) = true := by
    unfold fval; rw [hb]; exact nanBits_nan .f32 x x _
  rw [order_nan_l hn]; rfl

theorem impl_any (x : Nat) (w : World) (hx : (Lit.float .f32 x).wf = true) (b : Bool) (hb : b = true ↔ FinW single x) :
    Calls Try.prog 30 #[.float .f32 x] w fun e w' => e = .returned (.bool b) ∧ ∃ n, w.drewN n = w' := by
  have hl := fun w => widen_lt x w hx
  go_enter Try.func30, Try.ntmps30
  go_wp2_with fail
  cases b
  · refine (fin_no _ _ (hl _) (by rw [widen_fin, ← hb]; simp)).mono ?_
    rintro e w' ⟨rfl, rfl⟩
    clear hb
    go_wp2_with fail
    go_ret
    exact ⟨rfl, _, rfl⟩
  · refine (fin_yes _ _ (hl _) (by rw [widen_fin, ← hb])).mono ?_
    rintro e w' ⟨rfl, rfl⟩
    clear hb
    go_wp2_with fail
    go_ret
    exact ⟨rfl, _, rfl⟩
theorem spec_l01 (x : Nat) (w : World) (b : Bool) (hb : ∀ w, (FloatKind.f32.format.order (fval .sub .f32 w x x) 0 == some .eq) = b) :
    Calls Try.prog 56 #[.float .f32 x] w fun e w' => e = .returned (.bool b) ∧ ∃ n, w.drewN n = w' := by
  go_enter Try.func56, Try.ntmps56
  go_wp2
  go_ret
  exact ⟨rfl, _, rfl⟩
theorem spec_any (x : Nat) (w : World) (b : Bool) (hb : b = true ↔ FinW single x) :
    Calls Try.prog 29 #[.float .f32 x] w fun e w' => e = .returned (.bool b) ∧ ∃ n, w.drewN n = w' := by
  have h : ∀ w, (FloatKind.f32.format.order (fval .sub .f32 w x x) 0 == some .eq) = b := by
    intro w
    cases b
    · exact sub_not (by rw [← hb]; simp) w
    · exact sub_zero (by rw [← hb]) w
  have hs := fun w => spec_l01 x w b h
  clear h hb
  go_enter Try.func29, Try.ntmps29
  go_wp2_with fail
  refine (hs _).mono ?_
  rintro e w' ⟨rfl, n, rfl⟩
  go_wp2_with fail
  go_ret
  exact ⟨rfl, _, rfl⟩
theorem walk (a0 : Nat) (w : World) (w0 : (Lit.float .f32 a0).wf = true) :
    Calls Try.prog 6 #[.float .f32 a0] w fun e w' => e = .returned (.bool true) ∧ Below w.heap.size w w' := by
  obtain ⟨b, hb⟩ : ∃ b : Bool, b = true ↔ FinW single a0 := by
    by_cases h : FinW single a0
    · exact ⟨true, by simp [h]⟩
    · exact ⟨false, by simp [h]⟩
  have hs := fun w => spec_any a0 w b hb
  have hi := fun w => impl_any a0 w w0 b hb
  clear hb
  cases b
  all_goals
    go_enter Try.func6, Try.ntmps6
    go_wp2_with fail
    refine (hs _).mono ?_
    rintro e w' ⟨rfl, n, rfl⟩
    go_wp2_with fail
    refine (hi _).mono ?_
    rintro e w' ⟨rfl, m, rfl⟩
    go_wp2_with fail
    go_ret
    exact ⟨rfl, below_drewN _ _⟩

set_option maxRecDepth 100000 in
theorem lifted (os : Os) (started : os.Started) (H : Type) (enc : TypeId × Value → H) :
    ReturnsInHanded {} Try.checked os 6 .any (Rows.fnExactIsFiniteSpec.pre6 enc Try.prog Try.f6 Rows.fnExactIsFiniteRow.domain false) (Rows.fnExactIsFiniteSpec.post enc Try.prog Try.f6 false true false false) := by
  refine returnsInHanded_of_change (C := Try.checked) own started (by kernel_rfl) Try.func6
    (ChangeSpec.witness6 (enc := enc) (C := Try.checked) false ⟨#[], #[.float .f32 0], []⟩ 8 (by kernel_rfl) (by kernel_rfl) (by kernel_rfl) (by kernel_rfl)) ?_
  intro W base args ds gs before hval0 hW hcnd _
  have hval : ∀ (j : Nat) t v, Try.f6.params[j]? = some t → args[j]? = some v → Value.okWide Try.prog W .any base t v := hval0
  have hW' := hW
  obtain ⟨p, q, hA0, hV, rfl, hfz, hnd⟩ := hW
  have hA : DataW.TrodAll enc Try.prog W 0 (fun _ => true) true Try.f6.params.toList args.toList ds p := hA0
  rw [Try.params6] at hA hval
  obtain ⟨v0, vs0, d0, ds0, p0, q0, hargs, rfl, rfl, h0, r0⟩ := trodAll_cons hA
  obtain ⟨rfl, rfl, rfl⟩ := trodAll_nil r0
  obtain rfl : args = #[v0] := by cases args; simp_all
  obtain ⟨rfl, rfl⟩ := trodVars_none hV
  obtain ⟨a0, rfl, rfl, rfl, w0⟩ := open_float Try.underlying28 (hval 0 28 v0 rfl rfl) h0
  clear hA0 hval0
  refine (walk a0 W w0).mono fun e W' ⟨he, bel⟩ => ?_
  subst he
  exact ⟨_, rfl, _, _, _, [], _, [], hW', trodAll_mk1 (shut_bool Try.underlying4 _), (trodAll_cons_mk (shut_float Try.underlying28 w0) trodAll_mk0), rfl, bel.frame _, fun h => by cases h⟩

theorem over : Rows.fnExactIsFiniteRow.holds Try.pinned (OpenSpec.ofChange Rows.fnExactIsFiniteSpec) :=
  OpenClaim.holds_of_wide 6 Try.f6 rfl rfl rfl rfl rfl rfl rfl ⟨rfl, rfl, rfl, rfl, rfl⟩ rfl rfl rfl rfl rfl (by kernel_rfl) Try.func6 (by kernel_rfl)
    (of_decide_eq_true (by kernel_rfl)) (by unfold Func.isWrapper; first | (rw [if_pos (by decide +kernel)]; kernel_rfl) | (rw [if_neg (by decide +kernel)]; exact ⟨rfl, rfl⟩))
    (fun os started H enc _ => lifted os started H enc)

theorem proved : Rows.FnExactIsFiniteSaid := over
#print axioms proved
end Go.Proofs.Ytbghkjjnmdlkfaa.isFinite
