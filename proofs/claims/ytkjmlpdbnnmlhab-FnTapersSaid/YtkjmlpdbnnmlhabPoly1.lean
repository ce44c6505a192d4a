/- Polynomials of zeros, by the model. -/
import Derived.Test.YtkjmlpdbnnmlhabRows
import Derived.Test.YtkjmlpdbnnmlhabSlc
import Derived.Test.YtkjmlpdbnnmlhabSmall
import Derived.Test.YtkjmlpdbnnmlhabFloats
import Derived.Test.YtkjmlpdbnnmlhabRound
import Derived.Test.YtkjmlpdbnnmlhabValues
import Derived.Test.YtkjmlpdbnnmlhabConv
import Derived.Test.YtkjmlpdbnnmlhabFWalk
import Derived.Test.YtkjmlpdbnnmlhabFinWalk
import Derived.Test.YtkjmlpdbnnmlhabFloat2
import Derived.Test.YtkjmlpdbnnmlhabFloat3
import Derived.Test.YtkjmlpdbnnmlhabPhase
import Derived.Test.YtkjmlpdbnnmlhabSine
import Derived.Test.YtkjmlpdbnnmlhabPhasor
import Derived.Test.YtkjmlpdbnnmlhabListC
import Derived.Test.YtkjmlpdbnnmlhabSteerNum
import Derived.Test.YtkjmlpdbnnmlhabSineIn
import Derived.Test.YtkjmlpdbnnmlhabPolyNum
import Derived.Test.YtkjmlpdbnnmlhabPolyW
import Derived.WalkKit
import Derived.ProofKit
import Derived.OpenShut
import Derived.ShutString
import Derived.ChangeOld
import Derived.Below
import Derived.Lib.Hide
import Derived.BigQuiet
import Derived.Deep.QuietTactic
import Derived.WalkLawsBesides
import Derived.Outline
import Derived.Deep.LoopGhost
import Derived.Deep.QuietTactic
import Derived.BigQuiet
import Derived.Deep.RegionHeld3
import Derived.StillTailTactics
import Derived.Laws.ComplexArith
namespace Go.Proofs.Ytkjmlpdbnnmlhab.poly1
open Go.ChangeShapes Go.WideShapes Go.ChangeAt Go.RowKit
open Go.ChangeMaps (open_string shut_string)
set_option linter.unusedVariables false
open Go Ieee Go.RowKit
open Go.Proofs.Ytkjmlpdbnnmlhab.slc Go.Proofs.Ytkjmlpdbnnmlhab.small Go.Proofs.Ytkjmlpdbnnmlhab.floats Go.Proofs.Ytkjmlpdbnnmlhab.round Go.Proofs.Ytkjmlpdbnnmlhab.values Go.Proofs.Ytkjmlpdbnnmlhab.conv Go.Proofs.Ytkjmlpdbnnmlhab.fWalk Go.Proofs.Ytkjmlpdbnnmlhab.phase Go.Proofs.Ytkjmlpdbnnmlhab.sine Go.Proofs.Ytkjmlpdbnnmlhab.phasor Go.Proofs.Ytkjmlpdbnnmlhab.listC Go.Proofs.Ytkjmlpdbnnmlhab.sineIn Go.Proofs.Ytkjmlpdbnnmlhab.polyNum Go.Proofs.Ytkjmlpdbnnmlhab.polyW

theorem csub {a b c d p q : Nat} (h1 : floatBits .sub .f32 a c = some p) (h2 : floatBits .sub .f32 b d = some q) (w : World) (t : TypeId) : (binOp .sub t (.complex .f32 a b) (.complex .f32 c d)).run Try.prog w = .ok (.complex .f32 p q) w :=
  run_complex_sum w .sub (.inr rfl) t .f32 a b c d p q (by simp [cSumBits, h1, h2])
theorem cpx_one (x y : Nat) : ∀ u ∈ [Value.complex .f32 x y], u.oneCell' = true := by
  intro u hu
  have : u = .complex .f32 x y := by simpa using hu
  subst this
  rfl
theorem app_zero (l : List (Nat × Nat)) (n : Nat) (h : l.length = n) : lst (ccell l) n ++ [.complex .f32 0 0] = lst (ccell l) (n + 1) := by
  have e : ccell l n = .complex .f32 0 0 := by unfold ccell; simp [List.getD, h]
  rw [← e]
  simp [lst, List.range_succ]
/-- The numbers from j on are those of the next polynomial. -/
def dn (l : List (Nat × Nat)) (z : Nat × Nat) (j t : Nat) : Value := if j ≤ t then ccell (nx l z) t else ccell l t
theorem dn_all (l : List (Nat × Nat)) (z : Nat × Nat) (n : Nat) : lst (dn l z n) n = lst (ccell l) n := lst_congr fun t ht => by unfold dn; rw [if_neg (by omega)]
theorem dn_none (l : List (Nat × Nat)) (z : Nat × Nat) (n : Nat) : lst (dn l z 0) n = lst (ccell (nx l z)) n := lst_congr fun t ht => by unfold dn; rw [if_pos (Nat.zero_le _)]
theorem dn_set (l : List (Nat × Nat)) (z : Nat × Nat) (n i : Nat) (h : i < n) : (lst (dn l z (i + 1)) n).set i (ccell (nx l z) i) = lst (dn l z i) n := by
  apply List.ext_getElem?
  intro t
  rw [List.getElem?_set]
  by_cases ht : i = t
  · subst ht
    simp [lst, dn, h]
  · rw [if_neg ht]
    by_cases hn : t < n
    · rw [lst_get _ _ _ hn, lst_get _ _ _ hn]
      unfold dn
      by_cases h1 : i + 1 ≤ t
      · rw [if_pos h1, if_pos (by omega)]
      · rw [if_neg h1, if_neg (by omega)]
    · simp [lst, hn]

attribute [local go_sem] run_store_complex
set_option maxHeartbeats 4000000 in
set_option maxRecDepth 100000 in
theorem poly_spec : True := trivial

end Go.Proofs.Ytkjmlpdbnnmlhab.poly1
