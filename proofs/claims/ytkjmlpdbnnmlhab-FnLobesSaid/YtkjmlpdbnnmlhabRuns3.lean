/- LobesOf and DipsOf, by the model. -/
import Derived.Test.YtkjmlpdbnnmlhabRows
import Derived.Test.YtkjmlpdbnnmlhabSlc
import Derived.Test.YtkjmlpdbnnmlhabSmall
import Derived.Test.YtkjmlpdbnnmlhabListI
import Derived.Test.YtkjmlpdbnnmlhabFloatAll
import Derived.Test.YtkjmlpdbnnmlhabFWalk
import Derived.Test.YtkjmlpdbnnmlhabCut
import Derived.Test.YtkjmlpdbnnmlhabListF
import Derived.Test.YtkjmlpdbnnmlhabPeak
import Derived.Test.YtkjmlpdbnnmlhabReach
import Derived.Test.YtkjmlpdbnnmlhabRuns
import Derived.Test.YtkjmlpdbnnmlhabRuns2
import Derived.WalkKit
import Derived.ProofKit
import Derived.OpenShut
import Derived.ShutString
import Derived.ChangeOld
import Derived.Below
import Derived.Lib.Hide
import Derived.BigQuiet
import Derived.Deep.QuietTactic
import Derived.WalkLawsBesides
import Derived.Outline
import Derived.Deep.LoopGhost
namespace Go.Proofs.Ytkjmlpdbnnmlhab.runs3
open Go.ChangeShapes Go.WideShapes Go.ChangeAt Go.RowKit
open Go.ChangeMaps (open_string shut_string)
set_option linter.unusedVariables false
open Go Ieee Go.RowKit
open Go.Proofs.Ytkjmlpdbnnmlhab.slc Go.Proofs.Ytkjmlpdbnnmlhab.small Go.Proofs.Ytkjmlpdbnnmlhab.listI Go.Proofs.Ytkjmlpdbnnmlhab.floats Go.Proofs.Ytkjmlpdbnnmlhab.round Go.Proofs.Ytkjmlpdbnnmlhab.values Go.Proofs.Ytkjmlpdbnnmlhab.conv Go.Proofs.Ytkjmlpdbnnmlhab.fWalk Go.Proofs.Ytkjmlpdbnnmlhab.cut Go.Proofs.Ytkjmlpdbnnmlhab.listF Go.Proofs.Ytkjmlpdbnnmlhab.peak Go.Proofs.Ytkjmlpdbnnmlhab.reach Go.Proofs.Ytkjmlpdbnnmlhab.runs Go.Proofs.Ytkjmlpdbnnmlhab.runs2

theorem gbd1 (w : World) (a : Nat) : w.grownBy (w.drewN a) none := gb_drewN _ _ _
theorem gbd2 (w : World) (a b : Nat) : w.grownBy ((w.drewN a).drewN b) none := (gb_drewN _ _ _).trans (gb_drewN _ _ _)
theorem gbd3 (w : World) (a b c : Nat) : w.grownBy (((w.drewN a).drewN b).drewN c) none := (gbd2 _ _ _).trans (gb_drewN _ _ _)



end Go.Proofs.Ytkjmlpdbnnmlhab.runs3
