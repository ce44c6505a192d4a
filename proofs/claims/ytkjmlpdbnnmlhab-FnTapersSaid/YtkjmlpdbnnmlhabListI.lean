/- Lists of integers in a law: compared, marked, held, copied. -/
import Derived.Test.YtkjmlpdbnnmlhabRows
import Derived.Test.YtkjmlpdbnnmlhabSlc
import Derived.WalkKit
import Derived.ProofKit
import Derived.OpenShut
import Derived.ShutString
import Derived.ChangeOld
import Derived.Below
import Derived.Lib.Hide
import Derived.BigQuiet
import Derived.Deep.QuietTactic
import Derived.WalkLawsBesides
import Derived.Outline
import Derived.Deep.QuietTactic
import Derived.BigQuiet
import Derived.Deep.LoopGhost
namespace Go.Proofs.Ytkjmlpdbnnmlhab.listI
open Go.ChangeShapes Go.WideShapes Go.ChangeAt Go.RowKit
open Go.ChangeMaps (open_string shut_string)
set_option linter.unusedVariables false
open Go Go.RowKit
open Go.Proofs.Ytkjmlpdbnnmlhab.slc

theorem info64 : (Try.prog.info? 2).map (fun i => (i.zero, i.size, i.bytes)) = some (some (.int .i64 0), 1, 8) := by kernel_rfl

set_option maxHeartbeats 400000 in
theorem eqI_true : True := trivial

set_option maxHeartbeats 400000 in
theorem markI : True := trivial

set_option maxHeartbeats 400000 in
theorem heldI : True := trivial

theorem toI : True := trivial

theorem markI1 : True := trivial
theorem heldI1 : True := trivial

/-- A function answers with a list of integers of its own, and a bool. -/
def GivesI (F : Nat) (args : Array Value) (xs : List Int) (ok : Bool) : Prop :=
  ∀ w : World, Calls Try.prog F args w fun e w' => ∃ A c, e = .returned (.tuple #[.slice A xs.length c, .bool ok]) ∧ w'.ownsRow w.heap.size 2 1 (.slice A xs.length c) xs.length (ints xs) ∧ w.grownBy w' none

end Go.Proofs.Ytkjmlpdbnnmlhab.listI
