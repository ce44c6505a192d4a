/- The mean of a cut, by the program and by the model. -/
import Derived.Test.YtkjmlpdbnnmlhabRows
import Derived.Test.YtkjmlpdbnnmlhabSlc
import Derived.Test.YtkjmlpdbnnmlhabSmall
import Derived.Test.YtkjmlpdbnnmlhabFloatAll
import Derived.Test.YtkjmlpdbnnmlhabFWalk
import Derived.Test.YtkjmlpdbnnmlhabCut
import Derived.Test.YtkjmlpdbnnmlhabListF
import Derived.Test.YtkjmlpdbnnmlhabPeak
import Derived.Test.YtkjmlpdbnnmlhabFlAll
import Derived.Test.YtkjmlpdbnnmlhabMeanNum
import Derived.WalkKit
import Derived.ProofKit
import Derived.OpenShut
import Derived.ShutString
import Derived.ChangeOld
import Derived.Below
import Derived.Lib.Hide
import Derived.BigQuiet
import Derived.Deep.QuietTactic
import Derived.WalkLawsBesides
import Derived.Outline
import Derived.Deep.LoopGhost
namespace Go.Proofs.Ytkjmlpdbnnmlhab.mean
open Go.ChangeShapes Go.WideShapes Go.ChangeAt Go.RowKit
open Go.ChangeMaps (open_string shut_string)
set_option linter.unusedVariables false
open Go Ieee Go.RowKit
open Go.Proofs.Ytkjmlpdbnnmlhab.slc Go.Proofs.Ytkjmlpdbnnmlhab.small Go.Proofs.Ytkjmlpdbnnmlhab.floats Go.Proofs.Ytkjmlpdbnnmlhab.round Go.Proofs.Ytkjmlpdbnnmlhab.values Go.Proofs.Ytkjmlpdbnnmlhab.conv Go.Proofs.Ytkjmlpdbnnmlhab.fWalk Go.Proofs.Ytkjmlpdbnnmlhab.cut Go.Proofs.Ytkjmlpdbnnmlhab.listF Go.Proofs.Ytkjmlpdbnnmlhab.peak Go.Proofs.Ytkjmlpdbnnmlhab.float2 Go.Proofs.Ytkjmlpdbnnmlhab.float3 Go.Proofs.Ytkjmlpdbnnmlhab.meanNum

theorem cvi64 (w : World) (n : Int) : (convert 3 39 (.int .i64 n)).run Try.prog w = .ok (.float .f64 (floatOfInt .f64 n)) w :=
  run_convert_int_float w _ _ .i64 .f64 n (by rw [Try.underlying3]; rfl) Try.underlying39
theorem cv6432 (w : World) (b : Nat) : (convert 39 61 (.float .f64 b)).run Try.prog w = .ok (.float .f32 (cval .f64 w b .f32)) (w.drewN (ccnt .f64 b .f32)) :=
  run_convff w _ _ .f64 .f32 b (by rw [Try.underlying39]; rfl) Try.underlying61
attribute [local go_sem] cvi64 cv6432 cv3264 run_fadd run_fquo

set_option maxHeartbeats 800000 in
theorem mean_spec : True := trivial

set_option maxHeartbeats 800000 in
theorem mean_impl : True := trivial

theorem spec_m : True := trivial
theorem impl_m : True := trivial

end Go.Proofs.Ytkjmlpdbnnmlhab.mean
