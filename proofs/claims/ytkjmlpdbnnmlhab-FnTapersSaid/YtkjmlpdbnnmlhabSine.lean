/- The sine of at most a quarter of a turn, by the program and by the model. -/
import Derived.Test.YtkjmlpdbnnmlhabRows
import Derived.Test.YtkjmlpdbnnmlhabFloats
import Derived.Test.YtkjmlpdbnnmlhabRound
import Derived.Test.YtkjmlpdbnnmlhabValues
import Derived.Test.YtkjmlpdbnnmlhabConv
import Derived.Test.YtkjmlpdbnnmlhabFWalk
import Derived.Test.YtkjmlpdbnnmlhabFloat2
import Derived.Test.YtkjmlpdbnnmlhabFloat3
import Derived.Test.YtkjmlpdbnnmlhabPhase
import Derived.WalkKit
import Derived.ProofKit
import Derived.OpenShut
import Derived.ShutString
import Derived.ChangeOld
import Derived.Below
import Derived.Lib.Hide
import Derived.BigQuiet
import Derived.Deep.QuietTactic
import Derived.WalkLawsBesides
import Derived.Outline
import Derived.Deep.LoopGhost
namespace Go.Proofs.Ytkjmlpdbnnmlhab.sine
open Go.ChangeShapes Go.WideShapes Go.ChangeAt Go.RowKit
open Go.ChangeMaps (open_string shut_string)
set_option linter.unusedVariables false
open Go Ieee
open Go.Proofs.Ytkjmlpdbnnmlhab.floats Go.Proofs.Ytkjmlpdbnnmlhab.round Go.Proofs.Ytkjmlpdbnnmlhab.values Go.Proofs.Ytkjmlpdbnnmlhab.conv Go.Proofs.Ytkjmlpdbnnmlhab.fWalk Go.Proofs.Ytkjmlpdbnnmlhab.float2 Go.Proofs.Ytkjmlpdbnnmlhab.float3 Go.Proofs.Ytkjmlpdbnnmlhab.phase

/-- An operation that has an answer. -/
theorem run_ok {P : Program} {op : BinOp} {x y r : Nat} (h : floatBits op .f64 x y = some r) (ha : arithOp op = true) (w : World) (t : TypeId) : (binOp op t (.float .f64 x) (.float .f64 y)).run P w = .ok (.float .f64 r) w := by
  rw [run_floatop w op t .f64 x y ha]
  have e1 : fval op .f64 w x y = r := by unfold fval; rw [h]
  have e2 : fcnt op .f64 x y = 0 := by unfold fcnt; rw [h]; rfl
  rw [e1, e2]
  rfl
theorem sc_eq (k : Int) : sc k = floatOfInt .f64 (2 * k * (2 * k + 1)) := rfl
theorem prod_bd (i : Nat) (h : i < 8) : 0 ≤ 2 * (8 - (i : Int)) * (2 * (8 - (i : Int)) + 1) ∧ 2 * (8 - (i : Int)) * (2 * (8 - (i : Int)) + 1) ≤ 272 := by
  obtain rfl | rfl | rfl | rfl | rfl | rfl | rfl | rfl : i = 0 ∨ i = 1 ∨ i = 2 ∨ i = 3 ∨ i = 4 ∨ i = 5 ∨ i = 6 ∨ i = 7 := by omega
  all_goals decide

set_option maxHeartbeats 400000 in
set_option maxRecDepth 100000 in
theorem sine_impl (y : Nat) (w : World) (h : Bd y (D64 - 2)) :
    Calls Try.prog 280 #[.float .f64 y] w fun e w' => e = .returned (.float .f64 (sn y)) ∧ w = w' := by
  obtain ⟨z1, _⟩ := sz_ok h
  obtain ⟨u1, u2⟩ := su_ok h
  obtain ⟨s1, _⟩ := sn_ok h
  have hz := run_ok (P := Try.prog) z1 rfl
  have hu := run_ok (P := Try.prog) u1 rfl
  have hs := run_ok (P := Try.prog) s1 rfl
  have HU := Lib.hid u2
  clear z1 u1 s1 u2 h
  go_enter Try.func280, Try.ntmps280
  go_wp2
  go_loop [5, 6] (fun p k => ∃ i : Nat, i ≤ 8 ∧ k = .int .i64 (8 - (i : Int)) ∧ p = .float .f64 (sp (su y) i)) (fun _ k => (intOf k).toNat)
  case atStart => exact ⟨0, Nat.zero_le _, rfl, rfl⟩
  case round =>
    obtain ⟨i, hi, rfl, rfl⟩ := hrel
    by_cases hlt : i < 8
    · obtain ⟨a1, a2, a3, _⟩ := sp_step HU.out hlt (sp_ok HU.out i hi)
      have h1 := run_ok (P := Try.prog) a1 rfl
      have h2 := run_ok (P := Try.prog) a2 rfl
      have h3 := run_ok (P := Try.prog) a3 rfl
      rw [sc_eq] at h2 h3
      obtain ⟨p1, p2⟩ := prod_bd i hlt
      clear a1 a2 a3
      go_wp2
      go_round
      case rel => exact ⟨i + 1, by omega, congrArg (Value.int .i64) (by omega), rfl⟩
      case measure => simp [intOf]; omega
    · obtain rfl : i = 8 := by omega
      go_wp2
      go_ret
      exact ⟨rfl, rfl⟩

/-- How y stands to some numbers. -/
theorem ord_of {x c : Nat} (hx : FinW double x) (hc : FinW double c) : FloatKind.f64.format.order x c = some (compare (V double x) (V double c)) := order_fin double hx hc
theorem lt_no {x c : Nat} (hx : FinW double x) (hc : FinW double c) (h : V double c ≤ V double x) : (FloatKind.f64.format.order x c == some .lt) = false := by
  rw [ord_of hx hc]
  have : compare (V double x) (V double c) ≠ .lt := by rw [Ne, Int.compare_eq_lt]; omega
  simpa using this
theorem gt_no {x c : Nat} (hx : FinW double x) (hc : FinW double c) (h : V double x ≤ V double c) : (FloatKind.f64.format.order x c == some .gt) = false := by
  rw [ord_of hx hc]
  have : compare (V double x) (V double c) ≠ .gt := by rw [Ne, Int.compare_eq_gt]; omega
  simpa using this
theorem lt_is {x c : Nat} (hx : FinW double x) (hc : FinW double c) (h : V double x < V double c) : FloatKind.f64.format.order x c = some .lt := by
  rw [ord_of hx hc, Int.compare_eq_lt.2 h]
theorem gt_is {x c : Nat} (hx : FinW double x) (hc : FinW double c) (h : V double c < V double x) : FloatKind.f64.format.order x c = some .gt := by
  rw [ord_of hx hc, Int.compare_eq_gt.2 h]
theorem eq_is {x c : Nat} (hx : FinW double x) (hc : FinW double c) (h : V double x = V double c) : FloatKind.f64.format.order x c = some .eq := by
  rw [ord_of hx hc, h]; simp
/-- A finite number less itself. -/
theorem less_self {x : Nat} (h : FinW double x) : ∃ r, floatBits .sub .f64 x x = some r ∧ FloatKind.f64.format.order r 0 = some .eq := by
  obtain ⟨r, hr, hrr⟩ := sub_rnd double h h (hi := 0) (by rw [inf_pow]; decide) (by rw [Int.sub_self, mv_zero]; exact Nat.le_refl _)
  have e := rnd_exact hrr F_zero (by rw [V_zero]; omega)
  exact ⟨r, hr, eq_is hrr.fin F_zero e⟩
theorem conv_ok {x : Nat} {n : Int} (h : (double.read x).toInt .zero = some n) (h1 : -9223372036854775808 ≤ n) (h2 : n ≤ 9223372036854775807) (w : World) : (convert 39 2 (.float .f64 x)).run Try.prog w = .ok (.int .i64 n) w := by
  have hd : (FloatKind.f64.decode x).toInt .zero = some n := h
  have hb : IntKind.i64.min ≤ n ∧ n ≤ IntKind.i64.max := ⟨h1, h2⟩
  simp [convert, run_underlying Try.underlying39, run_underlying Try.underlying2, Conv.floatToInt, hd, hb]
  intro h3
  omega

set_option maxHeartbeats 400000 in
set_option maxRecDepth 100000 in
theorem sine_spec (y : Nat) (w : World) (hf : FinW double y) (hy : y < 2 * double.signWeight) (hv0 : 0 ≤ V double y) (hv1 : V double y ≤ (q64 : Int)) :
    Calls Try.prog 273 #[.float .f64 y] w fun e w' => e = .returned (.float .f64 (sn y)) ∧ w = w' := by
  have hq := q64_pos
  have h : Bd y (D64 - 2) := ⟨hf, by rw [← q64_E]; omega⟩
  obtain ⟨z1, _⟩ := sz_ok h
  obtain ⟨u1, u2⟩ := su_ok h
  obtain ⟨s1, _⟩ := sn_ok h
  obtain ⟨r0, hr0, ho0⟩ := less_self hf
  obtain ⟨n, hn, _, _, _, _, hn0⟩ := whole hf (by omega)
  obtain rfl := hn0 (by omega)
  have ho1 := lt_is hf F_52 (by rw [V_52]; omega)
  have ho2 := gt_is hf F_m52 (by rw [V_m52]; omega)
  have ho3 := lt_no hf F_zero (by rw [V_zero]; exact hv0)
  have ho4 := lt_is hf F_half (by rw [V_half]; omega)
  have ho5 := gt_no hf F_quarter (by rw [V_quarter]; exact hv1)
  have hzz := run_ok (P := Try.prog) hr0 rfl
  have hlz := run_ok (P := Try.prog) (less_zero hf hy) rfl
  have hfi : floatOfInt .f64 0 = 0 := by decide +kernel
  have hcv := conv_ok hn (by decide) (by decide)
  have hz := run_ok (P := Try.prog) z1 rfl
  have hu := run_ok (P := Try.prog) u1 rfl
  have hs := run_ok (P := Try.prog) s1 rfl
  have HU := Lib.hid u2
  clear z1 u1 s1 u2 h hr0 hn hn0 hq hv0 hv1 hf hy
  go_enter Try.func273, Try.ntmps273
  go_wp2
  go_loop [7, 8] (fun p k => ∃ i : Nat, i ≤ 8 ∧ k = .int .i64 (8 - (i : Int)) ∧ p = .float .f64 (sp (su y) i)) (fun _ k => (intOf k).toNat)
  case atStart => exact ⟨0, Nat.zero_le _, rfl, rfl⟩
  case round =>
    obtain ⟨i, hi, rfl, rfl⟩ := hrel
    by_cases hlt : i < 8
    · obtain ⟨a1, a2, a3, _⟩ := sp_step HU.out hlt (sp_ok HU.out i hi)
      have h1 := run_ok (P := Try.prog) a1 rfl
      have h2 := run_ok (P := Try.prog) a2 rfl
      have h3 := run_ok (P := Try.prog) a3 rfl
      rw [sc_eq] at h2 h3
      obtain ⟨p1, p2⟩ := prod_bd i hlt
      clear a1 a2 a3
      go_wp2
      go_round
      case rel => exact ⟨i + 1, by omega, congrArg (Value.int .i64) (by omega), rfl⟩
      case measure => simp [intOf]; omega
    · obtain rfl : i = 8 := by omega
      go_wp2
      go_ret
      exact ⟨rfl, rfl⟩

end Go.Proofs.Ytkjmlpdbnnmlhab.sine
