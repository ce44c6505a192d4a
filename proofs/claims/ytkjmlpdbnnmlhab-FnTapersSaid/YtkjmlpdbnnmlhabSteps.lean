/- How much earlier a wave comes. -/
import Derived.Test.YtkjmlpdbnnmlhabRows
import Derived.Test.YtkjmlpdbnnmlhabSlc
import Derived.Test.YtkjmlpdbnnmlhabSmall
import Derived.Test.YtkjmlpdbnnmlhabOpens
import Derived.Test.YtkjmlpdbnnmlhabPlaces
import Derived.WalkKit
import Derived.ProofKit
import Derived.OpenShut
import Derived.ShutString
import Derived.ChangeOld
import Derived.Below
import Derived.Lib.Hide
import Derived.BigQuiet
import Derived.Deep.QuietTactic
import Derived.WalkLawsBesides
import Derived.Outline
import Derived.Deep.LoopGhost
import Derived.Deep.QuietTactic
import Derived.BigQuiet
namespace Go.Proofs.Ytkjmlpdbnnmlhab.steps
open Go.ChangeShapes Go.WideShapes Go.ChangeAt Go.RowKit
open Go.ChangeMaps (open_string shut_string)
set_option linter.unusedVariables false
open Go Go.RowKit
open Go.Proofs.Ytkjmlpdbnnmlhab.slc Go.Proofs.Ytkjmlpdbnnmlhab.small Go.Proofs.Ytkjmlpdbnnmlhab.opens Go.Proofs.Ytkjmlpdbnnmlhab.places

theorem prod_bd (x u : Int) (h1 : -4096 ≤ x) (h2 : x ≤ 4096) (h3 : -64 ≤ u) (h4 : u ≤ 64) : -262144 ≤ x * u ∧ x * u ≤ 262144 := by
  have hn : (x * u).natAbs ≤ 4096 * 64 := by
    rw [Int.natAbs_mul]
    exact Nat.mul_le_mul (by omega) (by omega)
  omega

/-- What is returned. -/
def stR (x y u v : Int) : Int × Bool := if okB x y = true ∧ dirB u v = true then (x * u + y * v, true) else (0, false)

theorem steps_sum (x y u v : Int) (w : World) (h1 : -262144 ≤ x * u ∧ x * u ≤ 262144) (h2 : -262144 ≤ y * v ∧ y * v ≤ 262144) :
    Calls Try.prog 258 #[.agg #[.int .i64 x, .int .i64 y], .agg #[.int .i64 u, .int .i64 v]] w fun e w' => e = .returned (.int .i64 (x * u + y * v)) ∧ w.grownBy w' none := by
  obtain ⟨a1, a2⟩ := h1
  obtain ⟨a3, a4⟩ := h2
  go_enter Try.func258, Try.ntmps258
  go_wp2
  go_ret
  exact ⟨rfl, (World.grownBy_alloc _ _ _).trans (World.grownBy_alloc _ _ _)⟩

set_option maxHeartbeats 400000 in
theorem st_spec : True := trivial

theorem steps_i (x y u v : Int) (w : World) (h1 : -262144 ≤ x * u ∧ x * u ≤ 262144) (h2 : -262144 ≤ y * v ∧ y * v ≤ 262144) :
    Calls Try.prog 242 #[.agg #[.int .i64 x, .int .i64 y], .agg #[.int .i64 u, .int .i64 v]] w fun e w' => e = .returned (.int .i64 (x * u + y * v)) ∧ w.grownBy w' none := by
  obtain ⟨a1, a2⟩ := h1
  obtain ⟨a3, a4⟩ := h2
  go_enter Try.func242, Try.ntmps242
  go_wp2
  go_ret
  exact ⟨rfl, (World.grownBy_alloc _ _ _).trans (World.grownBy_alloc _ _ _)⟩

set_option maxHeartbeats 400000 in
theorem st_impl : True := trivial

end Go.Proofs.Ytkjmlpdbnnmlhab.steps
