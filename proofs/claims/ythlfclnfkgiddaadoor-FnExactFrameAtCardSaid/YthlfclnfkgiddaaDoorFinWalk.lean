/- Whether a number is finite, in the program and in the model. -/
import Derived.Test.YthlfclnfkgiddaaDoorRows
import Derived.Test.YthlfclnfkgiddaaDoorFloats
import Derived.Test.YthlfclnfkgiddaaDoorRound
import Derived.Test.YthlfclnfkgiddaaDoorValues
import Derived.Test.YthlfclnfkgiddaaDoorConv
import Derived.Test.YthlfclnfkgiddaaDoorFWalk
import Derived.WalkKit
import Derived.ProofKit
import Derived.OpenShut
import Derived.ShutString
import Derived.ChangeOld
import Derived.Below
import Derived.Lib.Hide
import Derived.BigQuiet
import Derived.Deep.QuietTactic
import Derived.WalkLawsBesides
import Derived.Outline
namespace Go.Proofs.YthlfclnfkgiddaaDoor.finWalk
open Go.ChangeShapes Go.WideShapes Go.ChangeAt Go.RowKit
open Go.ChangeMaps (open_string shut_string)
set_option linter.unusedVariables false
open Go Ieee
open Go.Proofs.YthlfclnfkgiddaaDoor.floats Go.Proofs.YthlfclnfkgiddaaDoor.round Go.Proofs.YthlfclnfkgiddaaDoor.values Go.Proofs.YthlfclnfkgiddaaDoor.conv Go.Proofs.YthlfclnfkgiddaaDoor.fWalk

theorem and_low (x : Nat) : x &&& 9223372036854775807 = x % 9223372036854775808 := Nat.and_two_pow_sub_one_eq_mod x 63
theorem and_not (x : Nat) (h : x < 18446744073709551616) : bits .andNot .u64 (x : Int) 9223372036854775808 = ((x % 9223372036854775808 : Nat) : Int) := by
  rw [u64_andNot _ _ (by omega) (by omega) (by omega) (by omega), ← and_low]; rfl
theorem abs_call : True := trivial

theorem cmp_max {x : Nat} (hx : FinW double x) : (FloatKind.f64.format.order (x % 9223372036854775808) 9218868437227405311 == some .gt) = false := by
  have hx' : x % 9223372036854775808 < 9218868437227405312 := by
    have := hx; unfold FinW rg at this; rw [sw64, inf64] at this; exact this
  have e : rg double (x % 9223372036854775808) = x % 9223372036854775808 := by unfold rg; rw [sw64]; omega
  have hf : FinW double (x % 9223372036854775808) := by unfold FinW; rw [e, inf64]; exact hx'
  have hm : FinW double 9218868437227405311 := by unfold FinW rg; rw [sw64, inf64]; decide
  show (double.order _ _ == _) = false
  rw [order_fin double hf hm]
  have hs : sgn double (x % 9223372036854775808) = false := by
    unfold sgn; rw [sw64, Nat.div_eq_of_lt (by omega)]; rfl
  have hle : V double (x % 9223372036854775808) ≤ V double 9218868437227405311 := by
    have e1 : V double 9218868437227405311 = (mv double 9218868437227405311 : Nat) := by decide +kernel
    rw [e1]
    unfold V; rw [hs, e]
    simp only [sg, Bool.false_eq_true, if_false]
    exact_mod_cast mv_mono double (by omega)
  have : compare (V double (x % 9223372036854775808)) (V double 9218868437227405311) ≠ .gt := by
    rw [Ne, Int.compare_eq_gt]; omega
  simpa using this
theorem cmp_inf {x : Nat} (h : rg double x = double.infRung) : (FloatKind.f64.format.order (x % 9223372036854775808) 9218868437227405311 == some .gt) = true := by
  have e : x % 9223372036854775808 = 9218868437227405312 := by
    unfold rg at h; rw [sw64, inf64] at h; exact h
  rw [e]; decide +kernel

theorem isinf_call : True := trivial

theorem fin_yes : True := trivial
theorem fin_no : True := trivial

end Go.Proofs.YthlfclnfkgiddaaDoor.finWalk
