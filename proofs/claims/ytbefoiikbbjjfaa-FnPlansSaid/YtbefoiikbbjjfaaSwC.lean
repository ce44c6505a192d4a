/- SwitchTicks by the program. -/
import Derived.Test.YtbefoiikbbjjfaaRows
import Derived.Test.YtbefoiikbbjjfaaSlc
import Derived.Test.YtbefoiikbbjjfaaSmall
import Derived.Test.YtbefoiikbbjjfaaOpens
import Derived.Test.YtbefoiikbbjjfaaPlanNum
import Derived.Test.YtbefoiikbbjjfaaSwT
import Derived.WalkKit
import Derived.ProofKit
import Derived.OpenShut
import Derived.ShutString
import Derived.ChangeOld
import Derived.Below
import Derived.Lib.Hide
import Derived.BigQuiet
import Derived.Deep.QuietTactic
import Derived.WalkLawsBesides
import Derived.Outline
import Derived.Deep.LoopGhost
import Derived.Deep.RegionHeld3
import Derived.Deep.QuietTactic
import Derived.BigQuiet
namespace Go.Proofs.Ytbefoiikbbjjfaa.swC
open Go.ChangeShapes Go.WideShapes Go.ChangeAt Go.RowKit
open Go.ChangeMaps (open_string shut_string)
set_option linter.unusedVariables false
open Go Go.RowKit
open Go.Proofs.Ytbefoiikbbjjfaa.slc Go.Proofs.Ytbefoiikbbjjfaa.small Go.Proofs.Ytbefoiikbbjjfaa.opens Go.Proofs.Ytbefoiikbbjjfaa.planNum Go.Proofs.Ytbefoiikbbjjfaa.swT

/-- What SwitchTicks returns. -/
def sr (u v u' v' : Int) : Int × Bool := if dirB u v = true ∧ dirB u' v' = true then (sw u v u' v', true) else (0, false)

set_option maxHeartbeats 800000 in
set_option maxRecDepth 100000 in
theorem impl_c (B : Nat) (u v u' v' : Int) (w : World) (hB : B ≤ w.heap.size) :
    Calls Try.prog 35 #[.agg #[.int .i64 u, .int .i64 v], .agg #[.int .i64 u', .int .i64 v']] w fun e w' => e = .returned (.tuple #[.int .i64 (sr u v u' v').1, .bool (sr u v u' v').2]) ∧ w.grownBy w' none := by
  clear hB
  cases h1 : dirB u v
  · rw [show sr u v u' v' = (0, false) by unfold sr; rw [if_neg (by simp [h1])]]
    have H1 := Lib.hid (fun w => dir_impl u v w)
    rw [h1] at H1
    clear h1
    go_enter Try.func35, Try.ntmps35
    go_wp2_with fail
    refine (H1.out _).mono ?_
    rintro e w1 ⟨rfl, g1⟩
    go_wp2_with fail
    go_ret2
    exact ⟨rfl, (World.grownBy_alloc _ _ _).trans ((World.grownBy_alloc _ _ _).trans g1)⟩
  · cases h2 : dirB u' v'
    · rw [show sr u v u' v' = (0, false) by unfold sr; rw [if_neg (by simp [h2])]]
      have H1 := Lib.hid (fun w => dir_impl u v w)
      have H2 := Lib.hid (fun w => dir_impl u' v' w)
      rw [h1] at H1
      rw [h2] at H2
      clear h1 h2
      go_enter Try.func35, Try.ntmps35
      go_wp2_with fail
      refine (H1.out _).mono ?_
      rintro e w1 ⟨rfl, g1⟩
      obtain ⟨b1, b2, b3, b4⟩ := boxed4 g1
      go_wp2_with fail
      refine (H2.out _).mono ?_
      rintro e w2 ⟨rfl, g2⟩
      go_wp2_with fail
      go_ret2
      exact ⟨rfl, ((World.grownBy_alloc _ _ _).trans ((World.grownBy_alloc _ _ _).trans g1)).trans g2⟩
    · rw [show sr u v u' v' = (sw u v u' v', true) by unfold sr; rw [if_pos ⟨h1, h2⟩]]
      have H1 := Lib.hid (fun w => dir_impl u v w)
      have H2 := Lib.hid (fun w => dir_impl u' v' w)
      have H3 := Lib.hid (fun w => sw_impl u v u' v' w (dir_bd h1) (dir_bd h2))
      rw [h1] at H1
      rw [h2] at H2
      clear h1 h2
      go_enter Try.func35, Try.ntmps35
      go_wp2_with fail
      refine (H1.out _).mono ?_
      rintro e w1 ⟨rfl, g1⟩
      obtain ⟨b1, b2, b3, b4⟩ := boxed4 g1
      go_wp2_with fail
      refine (H2.out _).mono ?_
      rintro e w2 ⟨rfl, g2⟩
      obtain ⟨c1, c2, c3, c4⟩ := boxed4 (g1.trans g2)
      go_wp2_with fail
      refine (H3.out _).mono ?_
      rintro e w3 ⟨rfl, g3⟩
      go_wp2_with fail
      go_ret2
      exact ⟨rfl, (((World.grownBy_alloc _ _ _).trans ((World.grownBy_alloc _ _ _).trans g1)).trans g2).trans g3⟩

end Go.Proofs.Ytbefoiikbbjjfaa.swC
