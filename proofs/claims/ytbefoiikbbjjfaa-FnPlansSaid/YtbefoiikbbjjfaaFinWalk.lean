/- Whether a number is finite, in the program and in the model. -/
import Derived.Test.YtbefoiikbbjjfaaRows
import Derived.Test.YtbefoiikbbjjfaaFloatAll
import Derived.Test.YtbefoiikbbjjfaaFWalk
import Derived.WalkKit
import Derived.ProofKit
import Derived.OpenShut
import Derived.ShutString
import Derived.ChangeOld
import Derived.Below
import Derived.Lib.Hide
import Derived.BigQuiet
import Derived.Deep.QuietTactic
import Derived.WalkLawsBesides
import Derived.Outline
namespace Go.Proofs.Ytbefoiikbbjjfaa.finWalk
open Go.ChangeShapes Go.WideShapes Go.ChangeAt Go.RowKit
open Go.ChangeMaps (open_string shut_string)
set_option linter.unusedVariables false
open Go Ieee
open Go.Proofs.Ytbefoiikbbjjfaa.floats Go.Proofs.Ytbefoiikbbjjfaa.round Go.Proofs.Ytbefoiikbbjjfaa.values Go.Proofs.Ytbefoiikbbjjfaa.conv Go.Proofs.Ytbefoiikbbjjfaa.fWalk
attribute [local go_sem] c_f64bits c_f64from

theorem and_low (x : Nat) : x &&& 9223372036854775807 = x % 9223372036854775808 := Nat.and_two_pow_sub_one_eq_mod x 63
theorem and_not (x : Nat) (h : x < 18446744073709551616) : bits .andNot .u64 (x : Int) 9223372036854775808 = ((x % 9223372036854775808 : Nat) : Int) := by
  rw [u64_andNot _ _ (by omega) (by omega) (by omega) (by omega), ← and_low]; rfl
theorem abs_call (x : Nat) (w : World) (hx : (x : Int) ≤ 18446744073709551615) :
    Calls Try.prog 175 #[.float .f64 x] w fun e w' => e = .returned (.float .f64 (x % 9223372036854775808)) ∧ w = w' := by
  have h0 : (0 : Int) ≤ x := by omega
  go_enter Try.func175, Try.ntmps175
  go_wp2
  go_ret
  rw [and_not x (by omega)]
  exact ⟨rfl, rfl⟩

theorem cmp_max {x : Nat} (hx : FinW double x) : (FloatKind.f64.format.order (x % 9223372036854775808) 9218868437227405311 == some .gt) = false := by
  have hx' : x % 9223372036854775808 < 9218868437227405312 := by
    have := hx; unfold FinW rg at this; rw [sw64, inf64] at this; exact this
  have e : rg double (x % 9223372036854775808) = x % 9223372036854775808 := by unfold rg; rw [sw64]; omega
  have hf : FinW double (x % 9223372036854775808) := by unfold FinW; rw [e, inf64]; exact hx'
  have hm : FinW double 9218868437227405311 := by unfold FinW rg; rw [sw64, inf64]; decide
  show (double.order _ _ == _) = false
  rw [order_fin double hf hm]
  have hs : sgn double (x % 9223372036854775808) = false := by
    unfold sgn; rw [sw64, Nat.div_eq_of_lt (by omega)]; rfl
  have hle : V double (x % 9223372036854775808) ≤ V double 9218868437227405311 := by
    have e1 : V double 9218868437227405311 = (mv double 9218868437227405311 : Nat) := by decide +kernel
    rw [e1]
    unfold V; rw [hs, e]
    simp only [sg, Bool.false_eq_true, if_false]
    exact_mod_cast mv_mono double (by omega)
  have : compare (V double (x % 9223372036854775808)) (V double 9218868437227405311) ≠ .gt := by
    rw [Ne, Int.compare_eq_gt]; omega
  simpa using this
theorem cmp_inf {x : Nat} (h : rg double x = double.infRung) : (FloatKind.f64.format.order (x % 9223372036854775808) 9218868437227405311 == some .gt) = true := by
  have e : x % 9223372036854775808 = 9218868437227405312 := by
    unfold rg at h; rw [sw64, inf64] at h; exact h
  rw [e]; decide +kernel

theorem isinf_call (x : Nat) (w : World) (hx : (x : Int) ≤ 18446744073709551615) (b : Bool) (hb : (FloatKind.f64.format.order (x % 9223372036854775808) 9218868437227405311 == some .gt) = b) :
    Calls Try.prog 210 #[.float .f64 x, .int .i64 0] w fun e w' => e = .returned (.bool b) ∧ w = w' := by
  go_enter Try.func210, Try.ntmps210
  go_wp2_with fail
  refine (abs_call _ _ hx).mono ?_
  rintro e w' ⟨rfl, rfl⟩
  go_wp2_with fail
  go_ret
  exact ⟨by rw [← hb]; rfl, rfl⟩

theorem fin_yes (x : Nat) (w : World) (hx : (x : Int) ≤ 18446744073709551615) (h : FinW double x) :
    Calls Try.prog 173 #[.float .f64 x] w fun e w' => e = .returned (.bool true) ∧ w = w' := by
  have hn : isNaN .f64 x = false := fin_not_nan (k := .f64) h
  go_enter Try.func173, Try.ntmps173
  go_wp2_with fail
  refine (isnan_call _ _).mono ?_
  rintro e w' ⟨rfl, rfl⟩
  go_wp2_with fail
  refine (isinf_call _ _ hx _ (cmp_max h)).mono ?_
  rintro e w' ⟨rfl, rfl⟩
  go_wp2_with fail
  go_ret
  exact ⟨rfl, rfl⟩
theorem fin_no (x : Nat) (w : World) (hx : (x : Int) ≤ 18446744073709551615) (h : ¬ FinW double x) :
    Calls Try.prog 173 #[.float .f64 x] w fun e w' => e = .returned (.bool false) ∧ w = w' := by
  rcases kinds64 x with h1 | ⟨s, h1, h2, _⟩ | h1
  · exact absurd h1 h
  · have hn : isNaN .f64 x = false := by show (double.read x).isNaN = false; rw [h1]; rfl
    go_enter Try.func173, Try.ntmps173
    go_wp2_with fail
    refine (isnan_call _ _).mono ?_
    rintro e w' ⟨rfl, rfl⟩
    go_wp2_with fail
    refine (isinf_call _ _ hx _ (cmp_inf h2)).mono ?_
    rintro e w' ⟨rfl, rfl⟩
    go_wp2_with fail
    go_ret
    exact ⟨rfl, rfl⟩
  · go_enter Try.func173, Try.ntmps173
    go_wp2_with fail
    refine (isnan_call _ _).mono ?_
    rintro e w' ⟨rfl, rfl⟩
    go_wp2_with fail
    go_ret
    exact ⟨rfl, rfl⟩

end Go.Proofs.Ytbefoiikbbjjfaa.finWalk
