/- The absolute difference of integers in 64 bits. -/
/- The absolute difference of two numbers in 64 bits. -/
import Derived.Test.YtkjmlpdbnnmlhabRows
import Derived.Test.YtkjmlpdbnnmlhabSlc
import Derived.Test.YtkjmlpdbnnmlhabFloats
import Derived.Test.YtkjmlpdbnnmlhabRound
import Derived.Test.YtkjmlpdbnnmlhabValues
import Derived.Test.YtkjmlpdbnnmlhabConv
import Derived.Test.YtkjmlpdbnnmlhabFWalk
import Derived.Test.YtkjmlpdbnnmlhabFinWalk
import Derived.Test.YtkjmlpdbnnmlhabFloat2
import Derived.Test.YtkjmlpdbnnmlhabFloat3
import Derived.Test.YtkjmlpdbnnmlhabPhase
import Derived.Test.YtkjmlpdbnnmlhabSine
import Derived.Test.YtkjmlpdbnnmlhabPhasor
import Derived.Test.YtkjmlpdbnnmlhabListC
import Derived.Test.YtkjmlpdbnnmlhabSteerNum
import Derived.Test.YtkjmlpdbnnmlhabSineIn
import Derived.Test.YtkjmlpdbnnmlhabPolyNum
import Derived.Test.YtkjmlpdbnnmlhabGPoly
import Derived.Test.YtkjmlpdbnnmlhabGNum
import Derived.Test.YtkjmlpdbnnmlhabSmall
import Derived.Test.YtkjmlpdbnnmlhabOpens
import Derived.Test.YtkjmlpdbnnmlhabRoot
import Derived.Test.YtkjmlpdbnnmlhabPolyW
import Derived.Test.YtkjmlpdbnnmlhabRq
import Derived.Test.YtkjmlpdbnnmlhabPowW
import Derived.WalkKit
import Derived.ProofKit
import Derived.OpenShut
import Derived.ShutString
import Derived.ChangeOld
import Derived.Below
import Derived.Lib.Hide
import Derived.BigQuiet
import Derived.Deep.QuietTactic
import Derived.WalkLawsBesides
import Derived.Outline
namespace Go.Proofs.Ytkjmlpdbnnmlhab.gap
open Go.ChangeShapes Go.WideShapes Go.ChangeAt Go.RowKit
open Go.ChangeMaps (open_string shut_string)
set_option linter.unusedVariables false
open Go Ieee Go.RowKit
open Go.Proofs.Ytkjmlpdbnnmlhab.floats Go.Proofs.Ytkjmlpdbnnmlhab.round Go.Proofs.Ytkjmlpdbnnmlhab.values Go.Proofs.Ytkjmlpdbnnmlhab.conv Go.Proofs.Ytkjmlpdbnnmlhab.fWalk Go.Proofs.Ytkjmlpdbnnmlhab.float2 Go.Proofs.Ytkjmlpdbnnmlhab.float3 Go.Proofs.Ytkjmlpdbnnmlhab.phase Go.Proofs.Ytkjmlpdbnnmlhab.sine Go.Proofs.Ytkjmlpdbnnmlhab.phasor Go.Proofs.Ytkjmlpdbnnmlhab.steerNum Go.Proofs.Ytkjmlpdbnnmlhab.polyNum Go.Proofs.Ytkjmlpdbnnmlhab.gNum

theorem i64_ok (k : Int) (h : k.natAbs ≤ 2 ^ 52) : S64 (floatOfInt .f64 k) k := by
  have e1 : floatOfInt .f64 k = double.nearest (decide (k < 0)) k.natAbs 0 := rfl
  obtain ⟨f1, f2⟩ := float_int (decide (k < 0)) k.natAbs h
  exact ⟨by rw [e1]; exact f1, by rw [e1, f2, four_q, sg_k]⟩
theorem pos64 : (0 : Int) < 2 ^ D64 := by rw [pc]; exact Int.natCast_pos.2 (Nat.two_pow_pos _)
theorem ord_s {x y : Nat} {a b : Int} (hx : S64 x a) (hy : S64 y b) : FloatKind.f64.format.order x y = some (compare a b) := by
  rw [ord_of hx.1 hy.1, hx.2, hy.2, compare_scale]
/-- The greater one of two numbers. -/
def mxw (o : Ordering) (p q : Nat) : Nat := match o with | .lt => q | .gt => p | .eq => if (FloatKind.f64.decode p).neg then q else p
theorem max_f (w : World) (p q : Nat) (o : Ordering) (ho : FloatKind.f64.format.order p q = some o) :
    (Builtin.max_ #[39, 39] 39 #[.float .f64 p, .float .f64 q]).run Try.prog w = .ok (.float .f64 (mxw o p q)) w := by
  have e : Builtin.max_ #[39, 39] 39 #[.float .f64 p, .float .f64 q] = Builtin.max2 (.float .f64 p) (.float .f64 q) := by
    simp [Builtin.max_]
  rw [e]
  unfold Builtin.max2
  simp only [ho]
  cases o <;> rfl
/-- The absolute difference. -/
def gv (x y : Nat) : Nat := mxw ((FloatKind.f64.format.order (bv .sub x y) (bv .sub y x)).getD .eq) (bv .sub x y) (bv .sub y x)
theorem gv_s {x y : Nat} {a b : Int} (hx : S64 x a) (hy : S64 y b) (h : (a - b).natAbs ≤ 2 ^ 52) : S64 (gv x y) ((a - b).natAbs : Nat) := by
  obtain ⟨e1, s1⟩ := sub_s hx hy h
  obtain ⟨e2, s2⟩ := sub_s hy hx (by omega)
  have ho := ord_s s1 s2
  unfold gv
  rw [ho]
  simp only [Option.getD_some]
  unfold mxw
  rcases Int.lt_trichotomy (a - b) (b - a) with hc | hc | hc
  · rw [Int.compare_eq_lt.2 hc, show (((a - b).natAbs : Nat) : Int) = b - a by omega]
    exact s2
  · have h0 : a - b = 0 := by omega
    have h0' : b - a = 0 := by omega
    rw [h0, h0', show compare (0 : Int) 0 = .eq by simp]
    rw [h0] at s1
    rw [h0'] at s2
    dsimp only
    split
    · exact s2
    · exact s1
  · rw [Int.compare_eq_gt.2 hc, show (((a - b).natAbs : Nat) : Int) = a - b by omega]
    exact s1
theorem gap_s {x y : Nat} {a b : Int} (hx : S64 x a) (hy : S64 y b) (h : (a - b).natAbs ≤ 2 ^ 52) (w : World) :
    Calls Try.prog 73 #[.float .f64 x, .float .f64 y] w fun e w' => e = .returned (.float .f64 (gv x y)) ∧ w = w' := by
  obtain ⟨e1, s1⟩ := sub_s hx hy h
  obtain ⟨e2, s2⟩ := sub_s hy hx (by omega)
  have h1 := fun w : World => run_ok (P := Try.prog) (w := w) (t := 39) e1 rfl
  have h2 := fun w : World => run_ok (P := Try.prog) (w := w) (t := 39) e2 rfl
  have ho := ord_s s1 s2
  have hm := fun w : World => max_f w _ _ _ ho
  have hg : gv x y = mxw (compare (a - b) (b - a)) (bv .sub x y) (bv .sub y x) := by unfold gv; rw [ho]; rfl
  rw [← hg] at hm
  clear hg ho e1 e2 s1 s2 hx hy
  generalize gv x y = v at *
  go_enter Try.func73, Try.ntmps73
  go_wp2_with fail
  go_ret
  exact ⟨rfl, rfl⟩

end Go.Proofs.Ytkjmlpdbnnmlhab.gap

namespace Go.Proofs.Ytkjmlpdbnnmlhab.gapR
open Go.ChangeShapes Go.WideShapes Go.ChangeAt Go.RowKit
open Go.ChangeMaps (open_string shut_string)
set_option linter.unusedVariables false
open Go Ieee Go.RowKit
open Go.Proofs.Ytkjmlpdbnnmlhab.floats Go.Proofs.Ytkjmlpdbnnmlhab.round Go.Proofs.Ytkjmlpdbnnmlhab.values Go.Proofs.Ytkjmlpdbnnmlhab.conv Go.Proofs.Ytkjmlpdbnnmlhab.fWalk Go.Proofs.Ytkjmlpdbnnmlhab.float2 Go.Proofs.Ytkjmlpdbnnmlhab.float3 Go.Proofs.Ytkjmlpdbnnmlhab.phase Go.Proofs.Ytkjmlpdbnnmlhab.sine Go.Proofs.Ytkjmlpdbnnmlhab.phasor Go.Proofs.Ytkjmlpdbnnmlhab.listC Go.Proofs.Ytkjmlpdbnnmlhab.steerNum Go.Proofs.Ytkjmlpdbnnmlhab.polyNum Go.Proofs.Ytkjmlpdbnnmlhab.gNum Go.Proofs.Ytkjmlpdbnnmlhab.rq Go.Proofs.Ytkjmlpdbnnmlhab.powW Go.Proofs.Ytkjmlpdbnnmlhab.gap

theorem gv_near {x y e : Nat} {d : Rat} (hx : Bd x (D64 + e)) (hy : Bd y (D64 + e)) (he : e ≤ 199) (h : nr (r64 x) (r64 y) d) : FinW double (gv x y) ∧ r64 (gv x y) ≤ d + two (e + 1) / two 50 := by
  obtain ⟨_, b1, n1⟩ := sub64 hx hy he
  obtain ⟨_, b2, n2⟩ := sub64 hy hx he
  have h1 : r64 (bv .sub x y) ≤ d + two (e + 1) / two 50 := by unfold nr at *; grind
  have h2 : r64 (bv .sub y x) ≤ d + two (e + 1) / two 50 := by unfold nr at *; grind
  unfold gv mxw
  split
  · exact ⟨b2.1, h2⟩
  · exact ⟨b1.1, h1⟩
  · split
    · exact ⟨b2.1, h2⟩
    · exact ⟨b1.1, h1⟩
theorem gap_any {x y e : Nat} (hx : Bd x (D64 + e)) (hy : Bd y (D64 + e)) (he : e ≤ 199) (w : World) :
    Calls Try.prog 73 #[.float .f64 x, .float .f64 y] w fun e w' => e = .returned (.float .f64 (gv x y)) ∧ w = w' := by
  obtain ⟨e1, b1, _⟩ := sub64 hx hy he
  obtain ⟨e2, b2, _⟩ := sub64 hy hx he
  have h1 := fun w : World => run_ok (P := Try.prog) (w := w) (t := 39) e1 rfl
  have h2 := fun w : World => run_ok (P := Try.prog) (w := w) (t := 39) e2 rfl
  have ho := ord_of b1.1 b2.1
  have hm := fun w : World => max_f w _ _ _ ho
  have hg : gv x y = mxw (compare (V double (bv .sub x y)) (V double (bv .sub y x))) (bv .sub x y) (bv .sub y x) := by unfold gv; rw [ho]; rfl
  rw [← hg] at hm
  clear hg ho e1 e2 b1 b2 hx hy
  generalize gv x y = v at *
  go_enter Try.func73, Try.ntmps73
  go_wp2_with fail
  go_ret
  exact ⟨rfl, rfl⟩

end Go.Proofs.Ytkjmlpdbnnmlhab.gapR
