/- What the law of normed weights compares: the power with 0, and its difference from 1 with a thousandth. -/
import Derived.Test.YtabbfpjngbiohaaRows
import Derived.Test.YtabbfpjngbiohaaSlc
import Derived.Test.YtabbfpjngbiohaaSmall
import Derived.Test.YtabbfpjngbiohaaOpens
import Derived.Test.YtabbfpjngbiohaaR8
import Derived.Test.YtabbfpjngbiohaaSrc
import Derived.Test.YtabbfpjngbiohaaFloats
import Derived.Test.YtabbfpjngbiohaaRound
import Derived.Test.YtabbfpjngbiohaaValues
import Derived.Test.YtabbfpjngbiohaaConv
import Derived.Test.YtabbfpjngbiohaaFWalk
import Derived.Test.YtabbfpjngbiohaaFinWalk
import Derived.Test.YtabbfpjngbiohaaFloat2
import Derived.Test.YtabbfpjngbiohaaFloat3
import Derived.Test.YtabbfpjngbiohaaPhase
import Derived.Test.YtabbfpjngbiohaaSine
import Derived.Test.YtabbfpjngbiohaaPhasor
import Derived.Test.YtabbfpjngbiohaaListC
import Derived.Test.YtabbfpjngbiohaaSteerNum
import Derived.Test.YtabbfpjngbiohaaSineIn
import Derived.Test.YtabbfpjngbiohaaPolyNum
import Derived.Test.YtabbfpjngbiohaaPolyW
import Derived.Test.YtabbfpjngbiohaaPoly1
import Derived.Test.YtabbfpjngbiohaaListCC
import Derived.Test.YtabbfpjngbiohaaPoly2
import Derived.Test.YtabbfpjngbiohaaGPoly
import Derived.Test.YtabbfpjngbiohaaGNum
import Derived.Test.YtabbfpjngbiohaaSrcW
import Derived.Test.YtabbfpjngbiohaaRq
import Derived.Test.YtabbfpjngbiohaaRoot
import Derived.Test.YtabbfpjngbiohaaPowW
import Derived.Test.YtabbfpjngbiohaaRootN
import Derived.Test.YtabbfpjngbiohaaQuoN
import Derived.Test.YtabbfpjngbiohaaFine
import Derived.Test.YtabbfpjngbiohaaFineN
import Derived.Test.YtabbfpjngbiohaaNormQ
import Derived.Test.YtabbfpjngbiohaaNormNum
import Derived.Test.YtabbfpjngbiohaaNormSum
import Derived.Test.YtabbfpjngbiohaaGap
import Derived.Test.YtabbfpjngbiohaaGapR
import Derived.WalkKit
import Derived.ProofKit
import Derived.OpenShut
import Derived.ShutString
import Derived.ChangeOld
import Derived.Below
import Derived.Lib.Hide
import Derived.BigQuiet
import Derived.Deep.QuietTactic
import Derived.WalkLawsBesides
import Derived.Outline
import Derived.Deep.QuietTactic
import Derived.BigQuiet
import Derived.Deep.LoopGhost
import Derived.Laws.ComplexArith
namespace Go.Proofs.Ytabbfpjngbiohaa.normF
open Go.ChangeShapes Go.WideShapes Go.ChangeAt Go.RowKit
open Go.ChangeMaps (open_string shut_string)
set_option linter.unusedVariables false
open Go Ieee Go.RowKit
open Go.Proofs.Ytabbfpjngbiohaa.slc Go.Proofs.Ytabbfpjngbiohaa.floats Go.Proofs.Ytabbfpjngbiohaa.round Go.Proofs.Ytabbfpjngbiohaa.values Go.Proofs.Ytabbfpjngbiohaa.conv Go.Proofs.Ytabbfpjngbiohaa.fWalk Go.Proofs.Ytabbfpjngbiohaa.float2 Go.Proofs.Ytabbfpjngbiohaa.float3 Go.Proofs.Ytabbfpjngbiohaa.phase Go.Proofs.Ytabbfpjngbiohaa.sine Go.Proofs.Ytabbfpjngbiohaa.phasor Go.Proofs.Ytabbfpjngbiohaa.listC Go.Proofs.Ytabbfpjngbiohaa.sineIn Go.Proofs.Ytabbfpjngbiohaa.polyNum Go.Proofs.Ytabbfpjngbiohaa.polyW Go.Proofs.Ytabbfpjngbiohaa.gPoly Go.Proofs.Ytabbfpjngbiohaa.gNum Go.Proofs.Ytabbfpjngbiohaa.rq Go.Proofs.Ytabbfpjngbiohaa.powW Go.Proofs.Ytabbfpjngbiohaa.fine Go.Proofs.Ytabbfpjngbiohaa.fineN Go.Proofs.Ytabbfpjngbiohaa.normNum Go.Proofs.Ytabbfpjngbiohaa.normSum Go.Proofs.Ytabbfpjngbiohaa.gap Go.Proofs.Ytabbfpjngbiohaa.gapR

theorem V32_zero : FinW single 0 ∧ V single 0 = 0 := ⟨by unfold FinW; decide +kernel, by decide +kernel⟩
theorem pow_gt (l : List G) (hl : ∀ g ∈ l, InG g) (hn : l.length ≤ 8) : floatToFloatBits .f64 (psum (l.map fW)) .f32 = some (nw (psum (l.map fW))) ∧ (FloatKind.f32.format.order (nw (psum (l.map fW))) 0 == some .gt) = decide (1 ≤ sqs l) := by
  have hs := sqs_le l hl
  obtain ⟨a, b, c⟩ := narrow_256 (psum_16 _ l rfl (by omega) hl) (by omega)
  refine ⟨a, ?_⟩
  rw [show FloatKind.f32.format.order (nw (psum (l.map fW))) 0 = some (compare (V single (nw (psum (l.map fW)))) (V single 0)) from order_fin single b V32_zero.1, V32_zero.2, c, gNum.pc]
  have hp : (0 : Int) < ((2 ^ 141 : Nat) : Int) := Int.natCast_pos.2 (Nat.two_pow_pos _)
  generalize ((2 ^ 141 : Nat) : Int) = P at *
  by_cases h : 1 ≤ sqs l
  · have hq : 0 < sqs l * P := Int.mul_pos (by omega) hp
    rw [decide_eq_true h, Int.compare_eq_gt.2 hq]
    rfl
  · have hz : sqs l = 0 := by omega
    rw [decide_eq_false h, hz, Int.zero_mul]
    rfl
theorem one64 : Bd 4607182418800017408 (D64 + 11) ∧ r64 4607182418800017408 = 1 := by
  have hv : V double 4607182418800017408 = 1 * 2 ^ D64 := by decide +kernel
  refine ⟨⟨by unfold FinW; decide +kernel, ?_⟩, ?_⟩
  · rw [hv, k_abs]
    rw [show (1 : Int).natAbs = 1 from rfl, Nat.one_mul]
    exact Nat.pow_le_pow_right (by omega) (by omega)
  · unfold r64
    rw [hv, cast_pow]
    have := two_pos D64
    grind
/-- The power of normed weights against 1. -/
theorem gap_ok {x : Nat} (hb : Bd x (D64 + 11)) (h : nr (r32 (nw x)) 1 (3 / 4000)) : floatToFloatBits .f64 x .f32 = some (nw x) ∧ floatToFloatBits .f32 (nw x) .f64 = some (wd (nw x)) ∧ Bd (wd (nw x)) (D64 + 11) ∧ (FloatKind.f64.format.order (gv (wd (nw x)) 4607182418800017408) 4562254508917369340 == some .gt) = false := by
  obtain ⟨a, b⟩ := nw_is hb (by omega)
  obtain ⟨c, d⟩ := wd_in b (by omega)
  have e := (wd_r b.1).2
  obtain ⟨f1, f2⟩ := gv_near (e := 11) (d := 3 / 4000) d one64.1 (by omega) (by rw [e, one64.2]; exact h)
  refine ⟨a, c, d, gt_r f1 milli.1 (Rat.le_trans f2 (Rat.le_trans ?_ milli.2))⟩
  rw [two_num 50 1125899906842624 rfl, show two (11 + 1) = 4096 from rfl]
  grind

end Go.Proofs.Ytabbfpjngbiohaa.normF
