/- The absolute difference of two numbers in 64 bits. -/
import Derived.Test.YtabbfpjngbiohaaRows
import Derived.Test.YtabbfpjngbiohaaSlc
import Derived.Test.YtabbfpjngbiohaaSmall
import Derived.Test.YtabbfpjngbiohaaOpens
import Derived.Test.YtabbfpjngbiohaaFloats
import Derived.Test.YtabbfpjngbiohaaRound
import Derived.Test.YtabbfpjngbiohaaValues
import Derived.Test.YtabbfpjngbiohaaConv
import Derived.Test.YtabbfpjngbiohaaFWalk
import Derived.Test.YtabbfpjngbiohaaFinWalk
import Derived.Test.YtabbfpjngbiohaaRoot
import Derived.Test.YtabbfpjngbiohaaFloat2
import Derived.Test.YtabbfpjngbiohaaFloat3
import Derived.Test.YtabbfpjngbiohaaPhase
import Derived.Test.YtabbfpjngbiohaaSine
import Derived.Test.YtabbfpjngbiohaaPhasor
import Derived.Test.YtabbfpjngbiohaaListC
import Derived.Test.YtabbfpjngbiohaaSteerNum
import Derived.Test.YtabbfpjngbiohaaSineIn
import Derived.Test.YtabbfpjngbiohaaPolyNum
import Derived.Test.YtabbfpjngbiohaaPolyW
import Derived.Test.YtabbfpjngbiohaaGPoly
import Derived.Test.YtabbfpjngbiohaaGNum
import Derived.Test.YtabbfpjngbiohaaRq
import Derived.Test.YtabbfpjngbiohaaPowW
import Derived.Test.YtabbfpjngbiohaaGap
import Derived.WalkKit
import Derived.ProofKit
import Derived.OpenShut
import Derived.ShutString
import Derived.ChangeOld
import Derived.Below
import Derived.Lib.Hide
import Derived.BigQuiet
import Derived.Deep.QuietTactic
import Derived.WalkLawsBesides
import Derived.Outline
namespace Go.Proofs.Ytabbfpjngbiohaa.gapR
open Go.ChangeShapes Go.WideShapes Go.ChangeAt Go.RowKit
open Go.ChangeMaps (open_string shut_string)
set_option linter.unusedVariables false
open Go Ieee Go.RowKit
open Go.Proofs.Ytabbfpjngbiohaa.floats Go.Proofs.Ytabbfpjngbiohaa.round Go.Proofs.Ytabbfpjngbiohaa.values Go.Proofs.Ytabbfpjngbiohaa.conv Go.Proofs.Ytabbfpjngbiohaa.fWalk Go.Proofs.Ytabbfpjngbiohaa.float2 Go.Proofs.Ytabbfpjngbiohaa.float3 Go.Proofs.Ytabbfpjngbiohaa.phase Go.Proofs.Ytabbfpjngbiohaa.sine Go.Proofs.Ytabbfpjngbiohaa.phasor Go.Proofs.Ytabbfpjngbiohaa.listC Go.Proofs.Ytabbfpjngbiohaa.steerNum Go.Proofs.Ytabbfpjngbiohaa.polyNum Go.Proofs.Ytabbfpjngbiohaa.gNum Go.Proofs.Ytabbfpjngbiohaa.rq Go.Proofs.Ytabbfpjngbiohaa.powW Go.Proofs.Ytabbfpjngbiohaa.gap

theorem gv_near {x y e : Nat} {d : Rat} (hx : Bd x (D64 + e)) (hy : Bd y (D64 + e)) (he : e ≤ 199) (h : nr (r64 x) (r64 y) d) : FinW double (gv x y) ∧ r64 (gv x y) ≤ d + two (e + 1) / two 50 := by
  obtain ⟨_, b1, n1⟩ := sub64 hx hy he
  obtain ⟨_, b2, n2⟩ := sub64 hy hx he
  have h1 : r64 (bv .sub x y) ≤ d + two (e + 1) / two 50 := by unfold nr at *; grind
  have h2 : r64 (bv .sub y x) ≤ d + two (e + 1) / two 50 := by unfold nr at *; grind
  unfold gv mxw
  split
  · exact ⟨b2.1, h2⟩
  · exact ⟨b1.1, h1⟩
  · split
    · exact ⟨b2.1, h2⟩
    · exact ⟨b1.1, h1⟩
theorem gap_any {x y e : Nat} (hx : Bd x (D64 + e)) (hy : Bd y (D64 + e)) (he : e ≤ 199) (w : World) :
    Calls Try.prog 20 #[.float .f64 x, .float .f64 y] w fun e w' => e = .returned (.float .f64 (gv x y)) ∧ w = w' := by
  obtain ⟨e1, b1, _⟩ := sub64 hx hy he
  obtain ⟨e2, b2, _⟩ := sub64 hy hx he
  have h1 := fun w : World => run_ok (P := Try.prog) (w := w) (t := 32) e1 rfl
  have h2 := fun w : World => run_ok (P := Try.prog) (w := w) (t := 32) e2 rfl
  have ho := ord_of b1.1 b2.1
  have hm := fun w : World => max_f w _ _ _ ho
  have hg : gv x y = mxw (compare (V double (bv .sub x y)) (V double (bv .sub y x))) (bv .sub x y) (bv .sub y x) := by unfold gv; rw [ho]; rfl
  rw [← hg] at hm
  clear hg ho e1 e2 b1 b2 hx hy
  generalize gv x y = v at *
  go_enter Try.func20, Try.ntmps20
  go_wp2_with fail
  go_ret
  exact ⟨rfl, rfl⟩

end Go.Proofs.Ytabbfpjngbiohaa.gapR
