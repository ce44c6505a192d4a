/- LobesOf, DipsOf, LevelsOf where it fails, by the program. -/
import Derived.Test.YtkjmlpdbnnmlhabRows
import Derived.Test.YtkjmlpdbnnmlhabSlc
import Derived.Test.YtkjmlpdbnnmlhabSmall
import Derived.Test.YtkjmlpdbnnmlhabListI
import Derived.Test.YtkjmlpdbnnmlhabFloatAll
import Derived.Test.YtkjmlpdbnnmlhabFWalk
import Derived.Test.YtkjmlpdbnnmlhabCut
import Derived.Test.YtkjmlpdbnnmlhabListF
import Derived.Test.YtkjmlpdbnnmlhabPeak
import Derived.Test.YtkjmlpdbnnmlhabReach
import Derived.Test.YtkjmlpdbnnmlhabRuns
import Derived.Test.YtkjmlpdbnnmlhabRuns2
import Derived.Test.YtkjmlpdbnnmlhabRuns3
import Derived.Test.YtkjmlpdbnnmlhabMarkF
import Derived.Test.YtkjmlpdbnnmlhabMean
import Derived.WalkKit
import Derived.ProofKit
import Derived.OpenShut
import Derived.ShutString
import Derived.ChangeOld
import Derived.Below
import Derived.Lib.Hide
import Derived.BigQuiet
import Derived.Deep.QuietTactic
import Derived.WalkLawsBesides
import Derived.Outline
import Derived.Deep.LoopGhost
namespace Go.Proofs.Ytkjmlpdbnnmlhab.lobesI
open Go.ChangeShapes Go.WideShapes Go.ChangeAt Go.RowKit
open Go.ChangeMaps (open_string shut_string)
set_option linter.unusedVariables false
open Go Ieee Go.RowKit
open Go.Proofs.Ytkjmlpdbnnmlhab.slc Go.Proofs.Ytkjmlpdbnnmlhab.small Go.Proofs.Ytkjmlpdbnnmlhab.listI Go.Proofs.Ytkjmlpdbnnmlhab.cut Go.Proofs.Ytkjmlpdbnnmlhab.listF Go.Proofs.Ytkjmlpdbnnmlhab.peak Go.Proofs.Ytkjmlpdbnnmlhab.runs Go.Proofs.Ytkjmlpdbnnmlhab.runs2 Go.Proofs.Ytkjmlpdbnnmlhab.runs3 Go.Proofs.Ytkjmlpdbnnmlhab.markF

theorem rb_no_l (A : Option Addr) (n c : Nat) (w : World) (h : n < 1 ∨ 129 < n) (hm : n ≤ 9223372036854775807) :
    Calls Try.prog 150 #[.slice A n c, .func (.func 151) #[] #[]] w fun e w' => e = .returned (.tuple #[.slice none 0 0, .bool false]) ∧ w = w' := by
  go_enter Try.func150, Try.ntmps150
  go_wp2_with fail
  refine (cut_no _ _ _ _ h hm).mono ?_
  rintro e w' ⟨rfl, rfl⟩
  go_wp2_with fail
  go_ret2
  exact ⟨rfl, rfl⟩

theorem lobes_c (x : Nat → Nat) (n : Nat) : GvF 37 x n (runsT true x n).1 (runsT true x n).2 := by
  intro A c B w hm hr hB
  unfold runsT
  by_cases h : 1 ≤ n ∧ n ≤ 129
  · rw [if_pos h]
    obtain ⟨ad, rfl, _, _⟩ := hr.at_ h.1
    have hc := fun w hB ha => lobe_impl ad n c B x w h.1 h.2 hB ha
    rw [← cls_lst] at hc
    generalize runs true x n n 0 = ys at hc ⊢
    go_enter Try.func37, Try.ntmps37
    go_wp2_with fail
    refine (hc _ hB hr).mono ?_
    rintro e w' ⟨A', c', rfl, ho, hg⟩
    go_wp2_with fail
    go_ret2
    exact ⟨_, _, rfl, ho, hg⟩
  · rw [if_neg h]
    go_enter Try.func37, Try.ntmps37
    go_wp2_with fail
    refine (rb_no_l _ _ _ _ (by omega) hm).mono ?_
    rintro e w' ⟨rfl, rfl⟩
    go_wp2_with fail
    go_ret2
    exact ⟨none, 0, rfl, World.ownsRow_nil _ _ _ _, World.grownBy.refl _ _⟩

theorem rb_no_d : True := trivial

theorem dips_c : True := trivial

end Go.Proofs.Ytkjmlpdbnnmlhab.lobesI
