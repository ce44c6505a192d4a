/- The absolute difference of two numbers in 64 bits, by a comparison. -/
import Derived.Test.YtbefoiikbbjjfaaRows
import Derived.Test.YtbefoiikbbjjfaaSlc
import Derived.Test.YtbefoiikbbjjfaaFloatAll
import Derived.Test.YtbefoiikbbjjfaaFWalk
import Derived.Test.YtbefoiikbbjjfaaFinWalk
import Derived.Test.YtbefoiikbbjjfaaFlAll
import Derived.Test.YtbefoiikbbjjfaaPhasor
import Derived.Test.YtbefoiikbbjjfaaListC
import Derived.Test.YtbefoiikbbjjfaaSteerNum
import Derived.Test.YtbefoiikbbjjfaaSineIn
import Derived.Test.YtbefoiikbbjjfaaPolyAll
import Derived.Test.YtbefoiikbbjjfaaGAll
import Derived.Test.YtbefoiikbbjjfaaRoot
import Derived.Test.YtbefoiikbbjjfaaPowW
import Derived.Test.YtbefoiikbbjjfaaGap
import Derived.WalkKit
import Derived.ProofKit
import Derived.OpenShut
import Derived.ShutString
import Derived.ChangeOld
import Derived.Below
import Derived.Lib.Hide
import Derived.BigQuiet
import Derived.Deep.QuietTactic
import Derived.WalkLawsBesides
import Derived.Outline
namespace Go.Proofs.Ytbefoiikbbjjfaa.gap10
open Go.ChangeShapes Go.WideShapes Go.ChangeAt Go.RowKit
open Go.ChangeMaps (open_string shut_string)
set_option linter.unusedVariables false
open Go Ieee Go.RowKit
open Go.Proofs.Ytbefoiikbbjjfaa.floats Go.Proofs.Ytbefoiikbbjjfaa.round Go.Proofs.Ytbefoiikbbjjfaa.values Go.Proofs.Ytbefoiikbbjjfaa.conv Go.Proofs.Ytbefoiikbbjjfaa.fWalk Go.Proofs.Ytbefoiikbbjjfaa.float2 Go.Proofs.Ytbefoiikbbjjfaa.float3 Go.Proofs.Ytbefoiikbbjjfaa.phase Go.Proofs.Ytbefoiikbbjjfaa.sine Go.Proofs.Ytbefoiikbbjjfaa.phasor Go.Proofs.Ytbefoiikbbjjfaa.steerNum Go.Proofs.Ytbefoiikbbjjfaa.polyNum Go.Proofs.Ytbefoiikbbjjfaa.gNum Go.Proofs.Ytbefoiikbbjjfaa.rq Go.Proofs.Ytbefoiikbbjjfaa.powW

/-- The absolute difference. -/
def gw (x y : Nat) : Nat := if (FloatKind.f64.format.order x y == some .lt) = true then bv .sub y x else bv .sub x y
theorem gw_near {x y e : Nat} {d : Rat} (hx : Bd x (D64 + e)) (hy : Bd y (D64 + e)) (he : e ≤ 199) (h : nr (r64 x) (r64 y) d) : FinW double (gw x y) ∧ r64 (gw x y) ≤ d + two (e + 1) / two 50 := by
  obtain ⟨_, b1, n1⟩ := sub64 hx hy he
  obtain ⟨_, b2, n2⟩ := sub64 hy hx he
  have h1 : r64 (bv .sub x y) ≤ d + two (e + 1) / two 50 := by unfold nr at *; grind
  have h2 : r64 (bv .sub y x) ≤ d + two (e + 1) / two 50 := by unfold nr at *; grind
  unfold gw
  split
  · exact ⟨b2.1, h2⟩
  · exact ⟨b1.1, h1⟩
theorem gap10 {x y e : Nat} (hx : Bd x (D64 + e)) (hy : Bd y (D64 + e)) (he : e ≤ 199) (w : World) :
    Calls Try.prog 34 #[.float .f64 x, .float .f64 y] w fun e w' => e = .returned (.float .f64 (gw x y)) ∧ w = w' := by
  obtain ⟨e1, b1, _⟩ := sub64 hx hy he
  obtain ⟨e2, b2, _⟩ := sub64 hy hx he
  have h1 := fun w : World => run_ok (P := Try.prog) (w := w) (t := 62) e1 rfl
  have h2 := fun w : World => run_ok (P := Try.prog) (w := w) (t := 62) e2 rfl
  have hg : gw x y = if (FloatKind.f64.format.order x y == some .lt) = true then bv .sub y x else bv .sub x y := rfl
  cases ho : (FloatKind.f64.format.order x y == some .lt)
  · rw [ho, if_neg (by simp)] at hg
    rw [hg]
    generalize bv .sub x y = v at *
    clear hg e1 e2 b1 b2 hx hy h2
    go_enter Try.func34, Try.ntmps34
    go_wp2_with fail
    go_ret
    exact ⟨rfl, rfl⟩
  · rw [ho, if_pos rfl] at hg
    rw [hg]
    generalize bv .sub y x = v at *
    clear hg e1 e2 b1 b2 hx hy h1
    go_enter Try.func34, Try.ntmps34
    go_wp2_with fail
    go_ret
    exact ⟨rfl, rfl⟩

end Go.Proofs.Ytbefoiikbbjjfaa.gap10
