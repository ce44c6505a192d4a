/- The law on RootNumber answers true at every number. No condition. -/
import Derived.Test.YtbghkjjnmdlkfabRows
import Derived.Test.YtbghkjjnmdlkfabFloats
import Derived.Test.YtbghkjjnmdlkfabRound
import Derived.Test.YtbghkjjnmdlkfabValues
import Derived.Test.YtbghkjjnmdlkfabConv
import Derived.Test.YtbghkjjnmdlkfabFWalk
import Derived.Test.YtbghkjjnmdlkfabRoot
import Derived.WalkKit
import Derived.ProofKit
import Derived.OpenShut
import Derived.ShutString
import Derived.ChangeOld
import Derived.Below
import Derived.Lib.Hide
import Derived.BigQuiet
import Derived.Deep.QuietTactic
import Derived.WalkLawsBesides
import Derived.Outline
namespace Go.Proofs.Ytbghkjjnmdlkfab.rootNumber
open Go.ChangeShapes Go.WideShapes Go.ChangeAt Go.RowKit
open Go.ChangeMaps (open_string shut_string)
set_option linter.unusedVariables false
theorem own : ownKnob Try.prog.godebug = none := by kernel_rfl
theorem laidOut : laidOutB Try.prog = true := by kernel_rfl
open Ieee
open Go.Proofs.Ytbghkjjnmdlkfab.floats Go.Proofs.Ytbghkjjnmdlkfab.round Go.Proofs.Ytbghkjjnmdlkfab.values Go.Proofs.Ytbghkjjnmdlkfab.conv Go.Proofs.Ytbghkjjnmdlkfab.fWalk Go.Proofs.Ytbghkjjnmdlkfab.root
theorem cv3264 (w : World) (b : Nat) : (convert 28 22 (.float .f32 b)).run Try.prog w = .ok (.float .f64 (cval .f32 w b .f64)) (w.drewN (ccnt .f32 b .f64)) :=
  run_convff w _ _ .f32 .f64 b (by rw [Try.underlying28]; rfl) Try.underlying22
theorem cv6432 (w : World) (b : Nat) : (convert 22 28 (.float .f64 b)).run Try.prog w = .ok (.float .f32 (cval .f64 w b .f32)) (w.drewN (ccnt .f64 b .f32)) :=
  run_convff w _ _ .f64 .f32 b (by rw [Try.underlying22]; rfl) Try.underlying28
theorem c_sqrt (x : Nat) (w : World) : (callFunc 38 #[.float .f64 x]).run Try.prog w = .ok (.value (.float .f64 (sqval w x))) (w.drewN (sqcnt x)) := by
  rw [run_callFunc_extern (fn := Try.f38) (e := Extern.MathSqrt.sqrt) Try.func38 (by kernel_rfl) (by kernel_rfl) (by kernel_rfl) (by kernel_rfl), run_sqrt]
  rfl
attribute [local go_sem] cv3264 cv6432 c_sqrt
theorem below_drewN (w : World) (n : Nat) : Below w.heap.size w (w.drewN n) := ⟨rfl, rfl, rfl, Nat.le_refl _, fun _ _ => rfl⟩

theorem cast_le {a z g : Nat} (h : a * 2 ^ z ≤ g) : (a : Int) * 2 ^ z ≤ (g : Int) := by exact_mod_cast h
theorem widened_small (x : Nat) (w : World) (h : FinW double (cval .f32 w x .f64)) : (V double (cval .f32 w x .f64)).natAbs ≤ 2 ^ 1202 := by
  rcases kinds32 x with h1 | ⟨s, h1, _⟩ | h1
  · obtain ⟨r, hr, hrr⟩ := widen_rnd h1
    have e : cval .f32 w x .f64 = r := by unfold cval; rw [hr]
    rw [e] at h ⊢
    have hm := mv_mono single (show rg single x ≤ 2139095040 from by have := h1; unfold FinW at this; rw [inf32] at this; omega)
    have hB : mv single 2139095040 * 2 ^ 925 ≤ mv double 5183643171103440896 := by decide +kernel
    have hB2 : mv double 5183643171103440896 ≤ 2 ^ 1202 := by decide +kernel
    have f1 : FinW double 5183643171103440896 := by unfold FinW rg; rw [sw64, inf64]; decide
    have f2 : FinW double 14407015207958216704 := by unfold FinW rg; rw [sw64, inf64]; decide
    have v1 : V double 5183643171103440896 = (mv double 5183643171103440896 : Nat) := by decide +kernel
    have v2 : V double 14407015207958216704 = -(mv double 5183643171103440896 : Nat) := by decide +kernel
    have hx : mv single (rg single x) * 2 ^ 925 ≤ mv double 5183643171103440896 := Nat.le_trans (Nat.mul_le_mul_right _ hm) hB
    have hxi : ((mv single (rg single x) : Nat) : Int) * 2 ^ 925 ≤ ((mv double 5183643171103440896 : Nat) : Int) := cast_le hx
    generalize hG : mv double 5183643171103440896 = G at *
    have hp : (0 : Int) ≤ ((mv single (rg single x) : Nat) : Int) * 2 ^ 925 := Int.mul_nonneg (Int.natCast_nonneg _) (Int.le_of_lt (Int.pow_pos (by decide)))
    have hup : V single x * 2 ^ 925 ≤ (G : Int) := by
      unfold V sg; cases sgn single x
      · exact hxi
      · rw [if_pos rfl, Int.neg_mul]; omega
    have hlo : -(G : Int) ≤ V single x * 2 ^ 925 := by
      unfold V sg; cases sgn single x
      · rw [if_neg (by decide)]; omega
      · rw [if_pos rfl, Int.neg_mul]; omega
    have l1 := hrr.le _ f1 (by rw [v1, Int.pow_zero, Int.mul_one]; exact hup)
    have l2 := hrr.ge _ f2 (by rw [v2, Int.pow_zero, Int.mul_one]; exact hlo)
    rw [v1] at l1
    rw [v2] at l2
    refine Nat.le_trans ?_ hB2
    omega
  · exfalso
    have e : floatToFloatBits .f32 x .f64 = some (FloatKind.f64.encode (.infinity s)) := by
      unfold floatToFloatBits
      rw [if_neg (by decide)]
      show (match single.read x with | .nan _ _ => none | .infinity s => some (FloatKind.f64.encode (.infinity s)) | .number s m e => if (FloatKind.f64.decode (FloatKind.f64.encode (.number s m e))).isInfinity then none else some (FloatKind.f64.encode (.number s m e))) = _
      rw [h1]
    have e2 : cval .f32 w x .f64 = FloatKind.f64.encode (.infinity s) := by unfold cval; rw [e]
    rw [e2] at h
    unfold FinW rg at h; rw [sw64, inf64] at h
    cases s
    · exact absurd h (by decide +kernel)
    · exact absurd h (by decide +kernel)
  · have := widen_nan w x
    rw [h1, fin_not_nan (k := .f64) h] at this
    cases this

def R (x r : Nat) : Prop := can .f32 r = cop .f64 (sqop (cop .f32 x .f64)) .f32
theorem r_of (x : Nat) (w0 w1 w2 : World) : R x (cval .f64 w2 (sqval w1 (cval .f32 w0 x .f64)) .f32) := by
  unfold R
  rw [can_cval (root_fits w1 (widened_small x w0)) (by decide), ← cop_can (b := sqval _ _) (by decide), can_sqval, ← sqop_can (cval .f32 w0 x .f64), can_cval (wide_fits x) (by decide)]
theorem sqrt_call (x : Nat) (w : World) :
    Calls Try.prog 26 #[.float .f64 x] w fun e w' => e = .returned (.float .f64 (sqval w x)) ∧ w.drewN (sqcnt x) = w' := by
  go_enter Try.func26, Try.ntmps26
  go_wp2
  go_ret
  exact ⟨rfl, rfl⟩
theorem narrow_call (x : Nat) (w : World) :
    Calls Try.prog 29 #[.float .f64 x] w fun e w' => e = .returned (.float .f32 (cval .f64 w x .f32)) ∧ w.drewN (ccnt .f64 x .f32) = w' := by
  go_enter Try.func29, Try.ntmps29
  go_wp2
  go_ret
  exact ⟨rfl, rfl⟩
theorem impl_any (x : Nat) (w : World) :
    Calls Try.prog 12 #[.float .f32 x] w fun e w' => ∃ r, e = .returned (.float .f32 r) ∧ R x r ∧ ∃ n, w.drewN n = w' := by
  go_enter Try.func12, Try.ntmps12
  go_wp2_with fail
  refine (sqrt_call _ _).mono ?_
  rintro e w' ⟨rfl, rfl⟩
  go_wp2_with fail
  go_ret
  exact ⟨_, rfl, r_of _ _ _ _, _, rfl⟩
theorem spec_sq (x : Nat) (w : World) :
    Calls Try.prog 25 #[.float .f32 x] w fun e w' => ∃ r, e = .returned (.float .f32 r) ∧ R x r ∧ ∃ n, w.drewN n = w' := by
  go_enter Try.func25, Try.ntmps25
  go_wp2_with fail
  refine (sqrt_call _ _).mono ?_
  rintro e w' ⟨rfl, rfl⟩
  go_wp2_with fail
  refine (narrow_call _ _).mono ?_
  rintro e w' ⟨rfl, rfl⟩
  go_wp2_with fail
  go_ret
  exact ⟨_, rfl, r_of _ _ _ _, _, rfl⟩
theorem spec_any (x : Nat) (w : World) :
    Calls Try.prog 11 #[.float .f32 x] w fun e w' => ∃ r, e = .returned (.float .f32 r) ∧ R x r ∧ ∃ n, w.drewN n = w' := by
  go_enter Try.func11, Try.ntmps11
  go_wp2_with fail
  refine (spec_sq _ _).mono ?_
  rintro e w' ⟨r, rfl, hr, n, rfl⟩
  go_wp2_with fail
  go_ret
  exact ⟨_, rfl, hr, _, rfl⟩
theorem both {x r s : Nat} (hr : R x r) (hs : R x s) (w1 w2 : World) : can .f64 (cval .f32 w1 r .f64) = can .f64 (cval .f32 w2 s .f64) := by
  rw [can_cval (wide_fits r) (by decide), can_cval (wide_fits s) (by decide), ← cop_can (b := r) (by decide), ← cop_can (b := s) (by decide)]
  rw [show can .f32 r = can .f32 s from hr.trans hs.symm]
theorem walk (a0 : Nat) (w : World) (w0 : (Lit.float .f32 a0).wf = true) :
    Calls Try.prog 5 #[.float .f32 a0] w fun e w' => e = .returned (.bool true) ∧ Below w.heap.size w w' := by
  go_enter Try.func5, Try.ntmps5
  go_wp2_with fail
  refine (spec_any _ _).mono ?_
  rintro e w' ⟨r, rfl, hr, n, rfl⟩
  go_wp2_with fail
  refine (impl_any _ _).mono ?_
  rintro e w' ⟨s, rfl, hs, m, rfl⟩
  go_wp2_with fail
  refine (same_float _ _ _ (both hs hr _ _)).mono ?_
  rintro e w' ⟨rfl, k, rfl⟩
  go_wp2_with fail
  go_ret
  exact ⟨rfl, below_drewN _ _⟩

set_option maxRecDepth 100000 in
theorem lifted (os : Os) (started : os.Started) (H : Type) (enc : TypeId × Value → H) :
    ReturnsInHanded {} Try.checked os 5 .any (Rows.fnExactRootNumberSpec.pre6 enc Try.prog Try.f5 Rows.fnExactRootNumberRow.domain false) (Rows.fnExactRootNumberSpec.post enc Try.prog Try.f5 false true false false) := by
  refine returnsInHanded_of_change (C := Try.checked) own started (by kernel_rfl) Try.func5
    (ChangeSpec.witness6 (enc := enc) (C := Try.checked) false ⟨#[], #[.float .f32 0], []⟩ 8 (by kernel_rfl) (by kernel_rfl) (by kernel_rfl) (by kernel_rfl)) ?_
  intro W base args ds gs before hval0 hW hcnd _
  have hval : ∀ (j : Nat) t v, Try.f5.params[j]? = some t → args[j]? = some v → Value.okWide Try.prog W .any base t v := hval0
  have hW' := hW
  obtain ⟨p, q, hA0, hV, rfl, hfz, hnd⟩ := hW
  have hA : DataW.TrodAll enc Try.prog W 0 (fun _ => true) true Try.f5.params.toList args.toList ds p := hA0
  rw [Try.params5] at hA hval
  obtain ⟨v0, vs0, d0, ds0, p0, q0, hargs, rfl, rfl, h0, r0⟩ := trodAll_cons hA
  obtain ⟨rfl, rfl, rfl⟩ := trodAll_nil r0
  obtain rfl : args = #[v0] := by cases args; simp_all
  obtain ⟨rfl, rfl⟩ := trodVars_none hV
  obtain ⟨a0, rfl, rfl, rfl, w0⟩ := open_float Try.underlying28 (hval 0 28 v0 rfl rfl) h0
  clear hA0 hval0
  refine (walk a0 W w0).mono fun e W' ⟨he, bel⟩ => ?_
  subst he
  exact ⟨_, rfl, _, _, _, [], _, [], hW', trodAll_mk1 (shut_bool Try.underlying4 _), (trodAll_cons_mk (shut_float Try.underlying28 w0) trodAll_mk0), rfl, bel.frame _, fun h => by cases h⟩

theorem over : Rows.fnExactRootNumberRow.holds Try.pinned (OpenSpec.ofChange Rows.fnExactRootNumberSpec) :=
  OpenClaim.holds_of_wide 5 Try.f5 rfl rfl rfl rfl rfl rfl rfl ⟨rfl, rfl, rfl, rfl, rfl⟩ rfl rfl rfl rfl rfl (by kernel_rfl) Try.func5 (by kernel_rfl)
    (of_decide_eq_true (by kernel_rfl)) (by unfold Func.isWrapper; first | (rw [if_pos (by decide +kernel)]; kernel_rfl) | (rw [if_neg (by decide +kernel)]; exact ⟨rfl, rfl⟩))
    (fun os started H enc _ => lifted os started H enc)

theorem proved : Rows.FnExactRootNumberSaid := over
#print axioms proved
end Go.Proofs.Ytbghkjjnmdlkfab.rootNumber
