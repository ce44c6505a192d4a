/- Numbers of a taper. -/
import Derived.Test.YtkjmlpdbnnmlhabRows
import Derived.Test.YtkjmlpdbnnmlhabFloats
import Derived.Test.YtkjmlpdbnnmlhabRound
import Derived.Test.YtkjmlpdbnnmlhabValues
import Derived.Test.YtkjmlpdbnnmlhabConv
import Derived.Test.YtkjmlpdbnnmlhabFWalk
import Derived.Test.YtkjmlpdbnnmlhabFinWalk
import Derived.Test.YtkjmlpdbnnmlhabFloat2
import Derived.Test.YtkjmlpdbnnmlhabFloat3
import Derived.Test.YtkjmlpdbnnmlhabPhase
import Derived.Test.YtkjmlpdbnnmlhabSine
import Derived.Test.YtkjmlpdbnnmlhabPhasor
import Derived.Test.YtkjmlpdbnnmlhabListC
import Derived.Test.YtkjmlpdbnnmlhabSteerNum
import Derived.Test.YtkjmlpdbnnmlhabRingNum
import Derived.WalkKit
import Derived.ProofKit
import Derived.OpenShut
import Derived.ShutString
import Derived.ChangeOld
import Derived.Below
import Derived.Lib.Hide
import Derived.BigQuiet
import Derived.Deep.QuietTactic
import Derived.WalkLawsBesides
import Derived.Outline
namespace Go.Proofs.Ytkjmlpdbnnmlhab.taperNum
open Go.ChangeShapes Go.WideShapes Go.ChangeAt Go.RowKit
open Go.ChangeMaps (open_string shut_string)
set_option linter.unusedVariables false
open Go Ieee
open Go.Proofs.Ytkjmlpdbnnmlhab.floats Go.Proofs.Ytkjmlpdbnnmlhab.round Go.Proofs.Ytkjmlpdbnnmlhab.values Go.Proofs.Ytkjmlpdbnnmlhab.conv Go.Proofs.Ytkjmlpdbnnmlhab.fWalk Go.Proofs.Ytkjmlpdbnnmlhab.finWalk Go.Proofs.Ytkjmlpdbnnmlhab.float2 Go.Proofs.Ytkjmlpdbnnmlhab.float3 Go.Proofs.Ytkjmlpdbnnmlhab.phase Go.Proofs.Ytkjmlpdbnnmlhab.sine Go.Proofs.Ytkjmlpdbnnmlhab.phasor Go.Proofs.Ytkjmlpdbnnmlhab.listC Go.Proofs.Ytkjmlpdbnnmlhab.steerNum Go.Proofs.Ytkjmlpdbnnmlhab.ringNum

/-- The number of ways to choose i of some. -/
def wy (of : Int) : Nat → Int
  | 0 => 1
  | i + 1 => (wy of i * (of - i)).tdiv (i + 1)
theorem wy_succ (of : Int) (i : Nat) : wy of (i + 1) = (wy of i * (of - i)).tdiv (i + 1) := rfl
/-- The greatest of the first ones. -/
def wm (of : Int) : Nat → Int
  | 0 => 1
  | i + 1 => if wm of i < wy of (i + 1) then wy of (i + 1) else wm of i
theorem wm_succ (of : Int) (i : Nat) : wm of (i + 1) = if wm of i < wy of (i + 1) then wy of (i + 1) else wm of i := rfl
theorem wy_bd : ∀ o : Nat, o < 16 → ∀ i : Nat, i < 17 → 0 ≤ wy (o : Int) i ∧ wy (o : Int) i ≤ 6435 := by decide +kernel
theorem wm_bd : ∀ o : Nat, o < 16 → ∀ i : Nat, i < 17 → 0 ≤ wm (o : Int) i ∧ wm (o : Int) i ≤ 6435 := by decide +kernel
theorem wm_mid : ∀ o : Nat, o < 16 → wm (o : Int) o = wy (o : Int) (o / 2) := by decide +kernel
theorem wy_mul {o i : Nat} (ho : o < 16) (hi : i < 17) : -9223372036854775808 ≤ wy (o : Int) i * ((o : Int) - i) ∧ wy (o : Int) i * ((o : Int) - i) ≤ 9223372036854775807 := by
  obtain ⟨h1, h2⟩ := wy_bd o ho i hi
  have a : wy (o : Int) i * ((o : Int) - i) ≤ 6435 * 16 := by
    have := Int.mul_le_mul_of_nonneg_left (show (o : Int) - i ≤ 16 by omega) h1
    have := Int.mul_le_mul_of_nonneg_right h2 (show (0 : Int) ≤ 16 by omega)
    omega
  have b : -(6435 * 17) ≤ wy (o : Int) i * ((o : Int) - i) := by
    have x := Int.mul_le_mul_of_nonneg_left (show (-17 : Int) ≤ (o : Int) - i by omega) h1
    have := Int.mul_le_mul_of_nonneg_right h2 (show (0 : Int) ≤ 17 by omega)
    omega
  omega

def b32 (op : BinOp) (x y : Nat) : Nat := (floatBits op .f32 x y).getD 0
theorem b32_ok {op : BinOp} {x y : Nat} (h : (floatBits op .f32 x y).isSome = true) : floatBits op .f32 x y = some (b32 op x y) := by
  unfold b32
  cases h' : floatBits op .f32 x y with
  | none => rw [h'] at h; exact absurd h (by decide)
  | some r => rfl
def t2 (m : Int) : Nat := b32 .mul 1073741824 (floatOfInt .f32 m)
def ttri (m c : Int) : Nat := b32 .quo (t2 m) (floatOfInt .f32 c)
def tcr (i c : Int) : Nat := (phx (kq i c)).1
def tch (i c : Int) : Nat := b32 .quo (tcr i c) 1073741824
def tcos (i c : Int) : Nat := b32 .sub 1056964608 (tch i c)
def tbin (a b : Int) : Nat := b32 .quo (floatOfInt .f32 a) (floatOfInt .f32 b)

theorem tri_d : ∀ m : Nat, m < 17 → ∀ c : Nat, c < 18 → 1 ≤ c → (floatBits .mul .f32 1073741824 (floatOfInt .f32 (m : Int))).isSome = true ∧ (floatBits .quo .f32 (t2 (m : Int)) (floatOfInt .f32 (c : Int))).isSome = true := by decide +kernel
theorem cos_d : ∀ c : Nat, c < 18 → ∀ i : Nat, i < c → (floatBits .quo .f32 (tcr (i : Int) (c : Int)) 1073741824).isSome = true ∧ floatBits .mul .f32 1056964608 (tcr (i : Int) (c : Int)) = floatBits .quo .f32 (tcr (i : Int) (c : Int)) 1073741824 ∧ (floatBits .sub .f32 1056964608 (tch (i : Int) (c : Int))).isSome = true := by decide +kernel
theorem bin_d : ∀ o : Nat, o < 16 → ∀ i : Nat, i ≤ o → (floatBits .quo .f32 (floatOfInt .f32 (wy (o : Int) i)) (floatOfInt .f32 (wy (o : Int) (o / 2)))).isSome = true := by decide +kernel
theorem mkf_d : ∀ j : Nat, j < 70 → isNaN .f32 (floatOfInt .f32 (j : Int)) = false := by decide +kernel

/-- The number k of a taper of a kind with count elements. -/
def tpn (kind : Int) (n k : Nat) : Nat :=
  if kind = 0 then 1065353216 else if kind = 1 then ttri (if (n : Int) - k < (k : Int) + 1 then (n : Int) - k else (k : Int) + 1) ((n : Int) + 1)
  else if kind = 2 then tcos ((k : Int) + 1) ((n : Int) + 1) else tbin (wy ((n : Int) - 1) k) (wy ((n : Int) - 1) ((n - 1) / 2))

end Go.Proofs.Ytkjmlpdbnnmlhab.taperNum
