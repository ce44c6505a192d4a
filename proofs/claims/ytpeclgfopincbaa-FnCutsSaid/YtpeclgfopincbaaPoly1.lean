/- Polynomials of zeros, by the model. -/
import Derived.Test.YtpeclgfopincbaaRows
import Derived.Test.YtpeclgfopincbaaSlc
import Derived.Test.YtpeclgfopincbaaSmall
import Derived.Test.YtpeclgfopincbaaFloatAll
import Derived.Test.YtpeclgfopincbaaFWalk
import Derived.Test.YtpeclgfopincbaaFinWalk
import Derived.Test.YtpeclgfopincbaaFlAll
import Derived.Test.YtpeclgfopincbaaPhasor
import Derived.Test.YtpeclgfopincbaaListC
import Derived.Test.YtpeclgfopincbaaSteerNum
import Derived.Test.YtpeclgfopincbaaSineIn
import Derived.Test.YtpeclgfopincbaaPolyNum
import Derived.Test.YtpeclgfopincbaaPolyW
import Derived.WalkKit
import Derived.ProofKit
import Derived.OpenShut
import Derived.ShutString
import Derived.ChangeOld
import Derived.Below
import Derived.Lib.Hide
import Derived.BigQuiet
import Derived.Deep.QuietTactic
import Derived.WalkLawsBesides
import Derived.Outline
import Derived.Deep.LoopGhost
import Derived.Deep.RegionHeld3
import Derived.StillTailTactics
import Derived.Laws.ComplexArith
namespace Go.Proofs.Ytpeclgfopincbaa.poly1
open Go.ChangeShapes Go.WideShapes Go.ChangeAt Go.RowKit
open Go.ChangeMaps (open_string shut_string)
set_option linter.unusedVariables false
open Go Ieee Go.RowKit
open Go.Proofs.Ytpeclgfopincbaa.slc Go.Proofs.Ytpeclgfopincbaa.small Go.Proofs.Ytpeclgfopincbaa.floats Go.Proofs.Ytpeclgfopincbaa.round Go.Proofs.Ytpeclgfopincbaa.values Go.Proofs.Ytpeclgfopincbaa.conv Go.Proofs.Ytpeclgfopincbaa.fWalk Go.Proofs.Ytpeclgfopincbaa.phase Go.Proofs.Ytpeclgfopincbaa.sine Go.Proofs.Ytpeclgfopincbaa.phasor Go.Proofs.Ytpeclgfopincbaa.listC Go.Proofs.Ytpeclgfopincbaa.sineIn Go.Proofs.Ytpeclgfopincbaa.polyNum Go.Proofs.Ytpeclgfopincbaa.polyW

theorem csub {a b c d p q : Nat} (h1 : floatBits .sub .f32 a c = some p) (h2 : floatBits .sub .f32 b d = some q) (w : World) (t : TypeId) : (binOp .sub t (.complex .f32 a b) (.complex .f32 c d)).run Try.prog w = .ok (.complex .f32 p q) w :=
  run_complex_sum w .sub (.inr rfl) t .f32 a b c d p q (by simp [cSumBits, h1, h2])
theorem cpx_one (x y : Nat) : ∀ u ∈ [Value.complex .f32 x y], u.oneCell' = true := by
  intro u hu
  have : u = .complex .f32 x y := by simpa using hu
  subst this
  rfl
theorem app_zero (l : List (Nat × Nat)) (n : Nat) (h : l.length = n) : lst (ccell l) n ++ [.complex .f32 0 0] = lst (ccell l) (n + 1) := by
  have e : ccell l n = .complex .f32 0 0 := by unfold ccell; simp [List.getD, h]
  rw [← e]
  simp [lst, List.range_succ]
/-- The numbers from j on are those of the next polynomial. -/
def dn (l : List (Nat × Nat)) (z : Nat × Nat) (j t : Nat) : Value := if j ≤ t then ccell (nx l z) t else ccell l t
theorem dn_all (l : List (Nat × Nat)) (z : Nat × Nat) (n : Nat) : lst (dn l z n) n = lst (ccell l) n := lst_congr fun t ht => by unfold dn; rw [if_neg (by omega)]
theorem dn_none (l : List (Nat × Nat)) (z : Nat × Nat) (n : Nat) : lst (dn l z 0) n = lst (ccell (nx l z)) n := lst_congr fun t ht => by unfold dn; rw [if_pos (Nat.zero_le _)]
theorem dn_set (l : List (Nat × Nat)) (z : Nat × Nat) (n i : Nat) (h : i < n) : (lst (dn l z (i + 1)) n).set i (ccell (nx l z) i) = lst (dn l z i) n := by
  apply List.ext_getElem?
  intro t
  rw [List.getElem?_set]
  by_cases ht : i = t
  · subst ht
    simp [lst, dn, h]
  · rw [if_neg ht]
    by_cases hn : t < n
    · rw [lst_get _ _ _ hn, lst_get _ _ _ hn]
      unfold dn
      by_cases h1 : i + 1 ≤ t
      · rw [if_pos h1, if_pos (by omega)]
      · rw [if_neg h1, if_neg (by omega)]
    · simp [lst, hn]

attribute [local go_sem] run_store_complex
set_option maxHeartbeats 4000000 in
set_option maxRecDepth 100000 in
theorem poly_spec : True := trivial

end Go.Proofs.Ytpeclgfopincbaa.poly1
