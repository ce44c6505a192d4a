/- Complex numbers that are the same words are the same. -/
import Derived.Test.YtpmjheofjmdfeaaRows
import Derived.Test.YtpmjheofjmdfeaaSlc
import Derived.Test.YtpmjheofjmdfeaaFloatAll
import Derived.Test.YtpmjheofjmdfeaaFWalk
import Derived.Test.YtpmjheofjmdfeaaFinWalk
import Derived.Test.YtpmjheofjmdfeaaFlAll
import Derived.Test.YtpmjheofjmdfeaaPhasor
import Derived.Test.YtpmjheofjmdfeaaBits
import Derived.Test.YtpmjheofjmdfeaaListC
import Derived.Test.YtpmjheofjmdfeaaSteerNum
import Derived.WalkKit
import Derived.ProofKit
import Derived.OpenShut
import Derived.ShutString
import Derived.ChangeOld
import Derived.Below
import Derived.Lib.Hide
import Derived.BigQuiet
import Derived.Deep.QuietTactic
import Derived.WalkLawsBesides
import Derived.Outline
namespace Go.Proofs.Ytpmjheofjmdfeaa.sameC
open Go.ChangeShapes Go.WideShapes Go.ChangeAt Go.RowKit
open Go.ChangeMaps (open_string shut_string)
set_option linter.unusedVariables false
open Go Ieee
open Go.Proofs.Ytpmjheofjmdfeaa.slc Go.Proofs.Ytpmjheofjmdfeaa.floats Go.Proofs.Ytpmjheofjmdfeaa.round Go.Proofs.Ytpmjheofjmdfeaa.values Go.Proofs.Ytpmjheofjmdfeaa.conv Go.Proofs.Ytpmjheofjmdfeaa.phase Go.Proofs.Ytpmjheofjmdfeaa.phasor Go.Proofs.Ytpmjheofjmdfeaa.bits Go.Proofs.Ytpmjheofjmdfeaa.steerNum

theorem nearest32_lt (neg : Bool) (mag : Nat) (place : Int) : single.nearest neg mag place < 2 * single.signWeight := by
  have hsw := inf_lt_sw single
  have hw : ∀ r, r < single.signWeight → single.word neg r < 2 * single.signWeight := fun r h => by
    unfold Format.word
    cases neg <;> simp <;> omega
  by_cases hm : mag = 0
  · subst hm
    rw [nearest_zero]
    exact hw 0 (Nat.two_pow_pos _)
  · rw [nearest_rung single neg place hm]
    exact hw _ (Nat.lt_of_le_of_lt (Nat.min_le_right _ _) hsw)
theorem nw_le (x : Nat) : ((nw x : Nat) : Int) ≤ 4294967295 := by
  have h2 : (2 * single.signWeight : Nat) = 4294967296 := by decide +kernel
  have key : nw x < 4294967296 := by
    unfold nw floatToFloatBits
    rw [if_neg (by decide)]
    cases h : FloatKind.f64.decode x with
    | nan _ _ => simp
    | infinity s => cases s <;> decide +kernel
    | number s m e =>
      dsimp only
      split
      · simp
      · have := nearest32_lt s m e
        rw [h2] at this
        exact this
  omega
theorem phz_le (n : Int) : ((phz n).1 : Int) ≤ 4294967295 ∧ ((phz n).2 : Int) ≤ 4294967295 := ⟨nw_le _, nw_le _⟩

theorem same_num (x : Nat) (w : World) (hx : (x : Int) ≤ 4294967295) :
    Calls Try.prog 138 #[.float .f32 x, .float .f32 x] w fun e w' => e = .returned (.bool true) ∧ w.grownBy w' none := by
  go_enter Try.func138, Try.ntmps138
  go_wp2_with fail
  refine (impl_bits x _ hx).mono ?_
  rintro e w' ⟨rfl, n, rfl⟩
  go_wp2_with fail
  refine (impl_bits x _ hx).mono ?_
  rintro e w' ⟨rfl, m, rfl⟩
  go_wp2_with fail
  go_ret
  exact ⟨by simp, gb_drewN _ _ _⟩
theorem same_c (x y : Nat) (w : World) (hx : (x : Int) ≤ 4294967295) (hy : (y : Int) ≤ 4294967295) :
    Calls Try.prog 34 #[.complex .f32 x y, .complex .f32 x y] w fun e w' => e = .returned (.bool true) ∧ w.grownBy w' none := by
  go_enter Try.func34, Try.ntmps34
  go_wp2_with fail
  refine (same_num x _ hx).mono ?_
  rintro e w1 ⟨rfl, h1⟩
  go_wp2_with fail
  refine (same_num y _ hy).mono ?_
  rintro e w2 ⟨rfl, h2⟩
  go_wp2_with fail
  go_ret
  exact ⟨rfl, h1.trans h2⟩

end Go.Proofs.Ytpmjheofjmdfeaa.sameC
