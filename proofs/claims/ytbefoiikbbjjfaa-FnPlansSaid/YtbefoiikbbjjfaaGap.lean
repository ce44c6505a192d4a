/- The absolute difference of integers in 64 bits. -/
import Derived.Test.YtbefoiikbbjjfaaRows
import Derived.Test.YtbefoiikbbjjfaaSlc
import Derived.Test.YtbefoiikbbjjfaaFloatAll
import Derived.Test.YtbefoiikbbjjfaaFWalk
import Derived.Test.YtbefoiikbbjjfaaFinWalk
import Derived.Test.YtbefoiikbbjjfaaFlAll
import Derived.Test.YtbefoiikbbjjfaaPhasor
import Derived.Test.YtbefoiikbbjjfaaListC
import Derived.Test.YtbefoiikbbjjfaaSteerNum
import Derived.Test.YtbefoiikbbjjfaaSineIn
import Derived.Test.YtbefoiikbbjjfaaPolyAll
import Derived.Test.YtbefoiikbbjjfaaGAll
import Derived.WalkKit
import Derived.ProofKit
import Derived.OpenShut
import Derived.ShutString
import Derived.ChangeOld
import Derived.Below
import Derived.Lib.Hide
import Derived.BigQuiet
import Derived.Deep.QuietTactic
import Derived.WalkLawsBesides
import Derived.Outline
namespace Go.Proofs.Ytbefoiikbbjjfaa.gap
open Go.ChangeShapes Go.WideShapes Go.ChangeAt Go.RowKit
open Go.ChangeMaps (open_string shut_string)
set_option linter.unusedVariables false
open Go Ieee Go.RowKit
open Go.Proofs.Ytbefoiikbbjjfaa.floats Go.Proofs.Ytbefoiikbbjjfaa.round Go.Proofs.Ytbefoiikbbjjfaa.values Go.Proofs.Ytbefoiikbbjjfaa.conv Go.Proofs.Ytbefoiikbbjjfaa.fWalk Go.Proofs.Ytbefoiikbbjjfaa.float2 Go.Proofs.Ytbefoiikbbjjfaa.float3 Go.Proofs.Ytbefoiikbbjjfaa.phase Go.Proofs.Ytbefoiikbbjjfaa.sine Go.Proofs.Ytbefoiikbbjjfaa.phasor Go.Proofs.Ytbefoiikbbjjfaa.steerNum Go.Proofs.Ytbefoiikbbjjfaa.polyNum Go.Proofs.Ytbefoiikbbjjfaa.gNum

theorem i64_ok (k : Int) (h : k.natAbs ≤ 2 ^ 52) : S64 (floatOfInt .f64 k) k := by
  have e1 : floatOfInt .f64 k = double.nearest (decide (k < 0)) k.natAbs 0 := rfl
  obtain ⟨f1, f2⟩ := float_int (decide (k < 0)) k.natAbs h
  exact ⟨by rw [e1]; exact f1, by rw [e1, f2, four_q, sg_k]⟩
theorem pos64 : (0 : Int) < 2 ^ D64 := by rw [pc]; exact Int.natCast_pos.2 (Nat.two_pow_pos _)
theorem ord_s {x y : Nat} {a b : Int} (hx : S64 x a) (hy : S64 y b) : FloatKind.f64.format.order x y = some (compare a b) := by
  rw [ord_of hx.1 hy.1, hx.2, hy.2, compare_scale]
/-- The greater one of two numbers. -/
def mxw (o : Ordering) (p q : Nat) : Nat := match o with | .lt => q | .gt => p | .eq => if (FloatKind.f64.decode p).neg then q else p
theorem max_f (w : World) (p q : Nat) (o : Ordering) (ho : FloatKind.f64.format.order p q = some o) :
    (Builtin.max_ #[62, 62] 62 #[.float .f64 p, .float .f64 q]).run Try.prog w = .ok (.float .f64 (mxw o p q)) w := by
  have e : Builtin.max_ #[62, 62] 62 #[.float .f64 p, .float .f64 q] = Builtin.max2 (.float .f64 p) (.float .f64 q) := by
    simp [Builtin.max_]
  rw [e]
  unfold Builtin.max2
  simp only [ho]
  cases o <;> rfl
/-- The absolute difference. -/
def gv (x y : Nat) : Nat := mxw ((FloatKind.f64.format.order (bv .sub x y) (bv .sub y x)).getD .eq) (bv .sub x y) (bv .sub y x)
theorem gv_s {x y : Nat} {a b : Int} (hx : S64 x a) (hy : S64 y b) (h : (a - b).natAbs ≤ 2 ^ 52) : S64 (gv x y) ((a - b).natAbs : Nat) := by
  obtain ⟨e1, s1⟩ := sub_s hx hy h
  obtain ⟨e2, s2⟩ := sub_s hy hx (by omega)
  have ho := ord_s s1 s2
  unfold gv
  rw [ho]
  simp only [Option.getD_some]
  unfold mxw
  rcases Int.lt_trichotomy (a - b) (b - a) with hc | hc | hc
  · rw [Int.compare_eq_lt.2 hc, show (((a - b).natAbs : Nat) : Int) = b - a by omega]
    exact s2
  · have h0 : a - b = 0 := by omega
    have h0' : b - a = 0 := by omega
    rw [h0, h0', show compare (0 : Int) 0 = .eq by simp]
    rw [h0] at s1
    rw [h0'] at s2
    dsimp only
    split
    · exact s2
    · exact s1
  · rw [Int.compare_eq_gt.2 hc, show (((a - b).natAbs : Nat) : Int) = a - b by omega]
    exact s1
theorem gap_s : True := trivial

end Go.Proofs.Ytbefoiikbbjjfaa.gap
