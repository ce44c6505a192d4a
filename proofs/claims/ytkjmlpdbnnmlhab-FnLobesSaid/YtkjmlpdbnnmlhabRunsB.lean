/- The law's own look at runs finds those that are told. -/
import Derived.Test.YtkjmlpdbnnmlhabRows
import Derived.Test.YtkjmlpdbnnmlhabSlc
import Derived.Test.YtkjmlpdbnnmlhabSmall
import Derived.Test.YtkjmlpdbnnmlhabListI
import Derived.Test.YtkjmlpdbnnmlhabFloatAll
import Derived.Test.YtkjmlpdbnnmlhabFWalk
import Derived.Test.YtkjmlpdbnnmlhabCut
import Derived.Test.YtkjmlpdbnnmlhabListF
import Derived.Test.YtkjmlpdbnnmlhabRuns
import Derived.Test.YtkjmlpdbnnmlhabRuns2
import Derived.Test.YtkjmlpdbnnmlhabMarkF
import Derived.WalkKit
import Derived.ProofKit
import Derived.OpenShut
import Derived.ShutString
import Derived.ChangeOld
import Derived.Below
import Derived.Lib.Hide
import Derived.BigQuiet
import Derived.Deep.QuietTactic
import Derived.WalkLawsBesides
import Derived.Outline
import Derived.Deep.RegionWith
import Derived.Deep.LoopGhost
import Derived.Deep.CutRange
import Derived.Deep.CutBlock
import Derived.Deep.DeepCutAuto
namespace Go.Proofs.Ytkjmlpdbnnmlhab.runsB
open Go.ChangeShapes Go.WideShapes Go.ChangeAt Go.RowKit
open Go.ChangeMaps (open_string shut_string)
set_option linter.unusedVariables false
open Go Ieee Go.RowKit
open Go.Proofs.Ytkjmlpdbnnmlhab.slc Go.Proofs.Ytkjmlpdbnnmlhab.small Go.Proofs.Ytkjmlpdbnnmlhab.listI Go.Proofs.Ytkjmlpdbnnmlhab.floats Go.Proofs.Ytkjmlpdbnnmlhab.cut Go.Proofs.Ytkjmlpdbnnmlhab.listF Go.Proofs.Ytkjmlpdbnnmlhab.runs Go.Proofs.Ytkjmlpdbnnmlhab.runs2 Go.Proofs.Ytkjmlpdbnnmlhab.markF

theorem hi_run {r : Nat → Nat → Bool} : ∀ (f j m : Nat), j ≤ m → m < hi r f j → r m (m + 1) = true
  | 0, j, m, h1, h2 => by
    have : hi r 0 j = j := rfl
    omega
  | f + 1, j, m, h1, h2 => by
    rw [hi_succ] at h2
    by_cases hr : r j (j + 1) = true
    · rw [if_pos hr] at h2
      by_cases e : j = m
      · subst e; exact hr
      · exact hi_run f (j + 1) m (by omega) h2
    · rw [if_neg hr] at h2
      omega
theorem hi_stop {r : Nat → Nat → Bool} : ∀ (f j : Nat), hi r f j < j + f → r (hi r f j) (hi r f j + 1) = false
  | 0, j, h => by
    have : hi r 0 j = j := rfl
    omega
  | f + 1, j, h => by
    rw [hi_succ] at h ⊢
    by_cases hr : r j (j + 1) = true
    · rw [if_pos hr] at h ⊢
      exact hi_stop f (j + 1) (by omega)
    · rw [if_neg hr] at h ⊢
      simpa using hr
/-- A run from i to K. -/
theorem run_is (x : Nat → Nat) (n i : Nat) (hi' : i < n) : i ≤ runK x n i ∧ runK x n i < n ∧ (∀ m, i ≤ m → m < runK x n i → (FloatKind.f32.format.order (x (m + 1)) (x i) == some .eq) = true) ∧ (runK x n i + 1 < n → (FloatKind.f32.format.order (x (runK x n i + 1)) (x i) == some .eq) = false) := by
  have hb := hi_bd (r := runR x i) (n - 1 - i) i
  refine ⟨hb.1, ?_, fun m h1 h2 => hi_run (r := runR x i) _ _ m h1 h2, fun h => ?_⟩
  · unfold runK; omega
  · exact hi_stop (r := runR x i) (n - 1 - i) i (by unfold runK at h; omega)
theorem drop_cons {ys r : List Int} {m : Nat} {a : Int} (h : ys.drop m = a :: r) : ∃ hm : m < ys.length, ys[m] = a ∧ ys.drop (m + 1) = r := by
  have hm : m < ys.length := by
    rcases Nat.lt_or_ge m ys.length with h1 | h1
    · exact h1
    · rw [List.drop_eq_nil_of_le h1] at h; cases h
  refine ⟨hm, ?_⟩
  rw [List.drop_eq_getElem_cons hm] at h
  injection h with h1 h2
  exact ⟨h1, h2⟩
theorem cls_get (ys : List Int) (m : Nat) (h : m < ys.length) : cls ys m = .int .i64 ys[m] := by unfold cls ints; simp [h]

set_option maxHeartbeats 4000000 in
set_option maxRecDepth 100000 in
theorem runs_c : True := trivial

end Go.Proofs.Ytkjmlpdbnnmlhab.runsB
