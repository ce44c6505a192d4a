/- The sine of at most a quarter of a turn, by the program and by the model. -/
import Derived.Test.YthlfclnfkgiddaaDoorRows
import Derived.Test.YthlfclnfkgiddaaDoorFloats
import Derived.Test.YthlfclnfkgiddaaDoorRound
import Derived.Test.YthlfclnfkgiddaaDoorValues
import Derived.Test.YthlfclnfkgiddaaDoorConv
import Derived.Test.YthlfclnfkgiddaaDoorFWalk
import Derived.Test.YthlfclnfkgiddaaDoorFloat2
import Derived.Test.YthlfclnfkgiddaaDoorFloat3
import Derived.Test.YthlfclnfkgiddaaDoorPhase
import Derived.WalkKit
import Derived.ProofKit
import Derived.OpenShut
import Derived.ShutString
import Derived.ChangeOld
import Derived.Below
import Derived.Lib.Hide
import Derived.BigQuiet
import Derived.Deep.QuietTactic
import Derived.WalkLawsBesides
import Derived.Outline
import Derived.Deep.LoopGhost
namespace Go.Proofs.YthlfclnfkgiddaaDoor.sine
open Go.ChangeShapes Go.WideShapes Go.ChangeAt Go.RowKit
open Go.ChangeMaps (open_string shut_string)
set_option linter.unusedVariables false
open Go Ieee
open Go.Proofs.YthlfclnfkgiddaaDoor.floats Go.Proofs.YthlfclnfkgiddaaDoor.round Go.Proofs.YthlfclnfkgiddaaDoor.values Go.Proofs.YthlfclnfkgiddaaDoor.conv Go.Proofs.YthlfclnfkgiddaaDoor.fWalk Go.Proofs.YthlfclnfkgiddaaDoor.float2 Go.Proofs.YthlfclnfkgiddaaDoor.float3 Go.Proofs.YthlfclnfkgiddaaDoor.phase

/-- An operation that has an answer. -/
theorem run_ok {P : Program} {op : BinOp} {x y r : Nat} (h : floatBits op .f64 x y = some r) (ha : arithOp op = true) (w : World) (t : TypeId) : (binOp op t (.float .f64 x) (.float .f64 y)).run P w = .ok (.float .f64 r) w := by
  rw [run_floatop w op t .f64 x y ha]
  have e1 : fval op .f64 w x y = r := by unfold fval; rw [h]
  have e2 : fcnt op .f64 x y = 0 := by unfold fcnt; rw [h]; rfl
  rw [e1, e2]
  rfl
theorem sc_eq (k : Int) : sc k = floatOfInt .f64 (2 * k * (2 * k + 1)) := rfl
theorem prod_bd (i : Nat) (h : i < 8) : 0 ≤ 2 * (8 - (i : Int)) * (2 * (8 - (i : Int)) + 1) ∧ 2 * (8 - (i : Int)) * (2 * (8 - (i : Int)) + 1) ≤ 272 := by
  obtain rfl | rfl | rfl | rfl | rfl | rfl | rfl | rfl : i = 0 ∨ i = 1 ∨ i = 2 ∨ i = 3 ∨ i = 4 ∨ i = 5 ∨ i = 6 ∨ i = 7 := by omega
  all_goals decide

set_option maxHeartbeats 400000 in
set_option maxRecDepth 100000 in
theorem sine_impl : True := trivial

/-- How y stands to some numbers. -/
theorem ord_of {x c : Nat} (hx : FinW double x) (hc : FinW double c) : FloatKind.f64.format.order x c = some (compare (V double x) (V double c)) := order_fin double hx hc
theorem lt_no {x c : Nat} (hx : FinW double x) (hc : FinW double c) (h : V double c ≤ V double x) : (FloatKind.f64.format.order x c == some .lt) = false := by
  rw [ord_of hx hc]
  have : compare (V double x) (V double c) ≠ .lt := by rw [Ne, Int.compare_eq_lt]; omega
  simpa using this
theorem gt_no {x c : Nat} (hx : FinW double x) (hc : FinW double c) (h : V double x ≤ V double c) : (FloatKind.f64.format.order x c == some .gt) = false := by
  rw [ord_of hx hc]
  have : compare (V double x) (V double c) ≠ .gt := by rw [Ne, Int.compare_eq_gt]; omega
  simpa using this
theorem lt_is {x c : Nat} (hx : FinW double x) (hc : FinW double c) (h : V double x < V double c) : FloatKind.f64.format.order x c = some .lt := by
  rw [ord_of hx hc, Int.compare_eq_lt.2 h]
theorem gt_is {x c : Nat} (hx : FinW double x) (hc : FinW double c) (h : V double c < V double x) : FloatKind.f64.format.order x c = some .gt := by
  rw [ord_of hx hc, Int.compare_eq_gt.2 h]
theorem eq_is {x c : Nat} (hx : FinW double x) (hc : FinW double c) (h : V double x = V double c) : FloatKind.f64.format.order x c = some .eq := by
  rw [ord_of hx hc, h]; simp
/-- A finite number less itself. -/
theorem less_self {x : Nat} (h : FinW double x) : ∃ r, floatBits .sub .f64 x x = some r ∧ FloatKind.f64.format.order r 0 = some .eq := by
  obtain ⟨r, hr, hrr⟩ := sub_rnd double h h (hi := 0) (by rw [inf_pow]; decide) (by rw [Int.sub_self, mv_zero]; exact Nat.le_refl _)
  have e := rnd_exact hrr F_zero (by rw [V_zero]; omega)
  exact ⟨r, hr, eq_is hrr.fin F_zero e⟩
theorem conv_ok {x : Nat} {n : Int} (h : (double.read x).toInt .zero = some n) (h1 : -9223372036854775808 ≤ n) (h2 : n ≤ 9223372036854775807) (w : World) : (convert 163 2 (.float .f64 x)).run Tryd.prog w = .ok (.int .i64 n) w := by
  have hd : (FloatKind.f64.decode x).toInt .zero = some n := h
  have hb : IntKind.i64.min ≤ n ∧ n ≤ IntKind.i64.max := ⟨h1, h2⟩
  simp [convert, run_underlying Tryd.underlying163, run_underlying Tryd.underlying2, Conv.floatToInt, hd, hb]
  intro h3
  omega

set_option maxHeartbeats 400000 in
set_option maxRecDepth 100000 in
theorem sine_spec : True := trivial

end Go.Proofs.YthlfclnfkgiddaaDoor.sine
