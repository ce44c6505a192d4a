/- Tenths of decibels of a positive number, by the program and by the model. -/
import Derived.Test.YthnifmgjgdmmoaaRows
import Derived.Test.YthnifmgjgdmmoaaFloats
import Derived.Test.YthnifmgjgdmmoaaRound
import Derived.Test.YthnifmgjgdmmoaaValues
import Derived.Test.YthnifmgjgdmmoaaConv
import Derived.Test.YthnifmgjgdmmoaaFWalk
import Derived.Test.YthnifmgjgdmmoaaFinWalk
import Derived.Test.YthnifmgjgdmmoaaFloat2
import Derived.Test.YthnifmgjgdmmoaaFloat3
import Derived.Test.YthnifmgjgdmmoaaPhase
import Derived.Test.YthnifmgjgdmmoaaSine
import Derived.Test.YthnifmgjgdmmoaaFinBoth
import Derived.Test.YthnifmgjgdmmoaaLogNum
import Derived.WalkKit
import Derived.ProofKit
import Derived.OpenShut
import Derived.ShutString
import Derived.ChangeOld
import Derived.Below
import Derived.Lib.Hide
import Derived.BigQuiet
import Derived.Deep.QuietTactic
import Derived.WalkLawsBesides
import Derived.Outline
import Derived.Deep.LoopGhost
namespace Go.Proofs.Ythnifmgjgdmmoaa.logWalk
open Go.ChangeShapes Go.WideShapes Go.ChangeAt Go.RowKit
open Go.ChangeMaps (open_string shut_string)
set_option linter.unusedVariables false
open Go Ieee
open Go.Proofs.Ythnifmgjgdmmoaa.floats Go.Proofs.Ythnifmgjgdmmoaa.round Go.Proofs.Ythnifmgjgdmmoaa.values Go.Proofs.Ythnifmgjgdmmoaa.conv Go.Proofs.Ythnifmgjgdmmoaa.fWalk Go.Proofs.Ythnifmgjgdmmoaa.finWalk Go.Proofs.Ythnifmgjgdmmoaa.float2 Go.Proofs.Ythnifmgjgdmmoaa.float3 Go.Proofs.Ythnifmgjgdmmoaa.phase Go.Proofs.Ythnifmgjgdmmoaa.sine Go.Proofs.Ythnifmgjgdmmoaa.finBoth Go.Proofs.Ythnifmgjgdmmoaa.logNum

theorem run_wl {p : Nat} (h : floatToFloatBits .f32 p .f64 = some (wl p)) (w : World) : (convert 37 41 (.float .f32 p)).run Try.prog w = .ok (.float .f64 (wl p)) w := by
  rw [run_convff (P := Try.prog) w 37 41 .f32 .f64 p (by rw [Try.underlying37]; rfl) Try.underlying41]
  have e1 : cval .f32 w p .f64 = wl p := by unfold cval; rw [h]
  have e2 : ccnt .f32 p .f64 = 0 := by unfold ccnt; rw [h]; rfl
  rw [e1, e2]; rfl
theorem cvi64 (w : World) (n : Int) : (convert 3 41 (.int .i64 n)).run Try.prog w = .ok (.float .f64 (floatOfInt .f64 n)) w :=
  run_convert_int_float w _ _ .i64 .f64 n (by rw [Try.underlying3]; rfl) Try.underlying41

/-! ## the floor -/
theorem cut_le (way : Toward) (neg : Bool) (n drop : Nat) : way.cut neg n drop ≤ n / 2 ^ drop + 1 := by
  unfold Toward.cut
  simp only [Nat.shiftLeft_eq, Nat.one_mul]
  have hb : ∀ b : Bool, b.toNat ≤ 1 := fun b => by cases b <;> simp
  by_cases h : drop ≤ n.log2 + 2
  · rw [Nat.min_eq_left h]
    exact Nat.add_le_add_left (hb _) _
  · have hn : n < 2 ^ (n.log2 + 1) := Nat.lt_log2_self
    rw [Nat.min_eq_right (by omega)]
    refine Nat.le_trans (Nat.add_le_add_left (hb _) _) ?_
    rw [Nat.div_eq_of_lt (Nat.lt_of_lt_of_le hn (Nat.pow_le_pow_right (by omega) (show n.log2 + 1 ≤ n.log2 + 2 by omega)))]
    exact Nat.add_le_add_right (Nat.zero_le _) 1
theorem sg_inj {s : Bool} {a b : Nat} (h : sg s a = sg s b) : a = b := by
  unfold sg at h; split at h <;> omega
theorem flr_ok {x : Nat} (h : Bd x (D64 + 23)) : FinW double (flr x) ∧ (V double (flr x)).natAbs ≤ (2 ^ 23 + 1) * (4 * q64) := by
  obtain ⟨m, e, ex, vx⟩ := read_fin double h.1
  obtain ⟨q, hq, hq1, _⟩ := toInt_fin h.1
  have hV : (V double x).natAbs = mv double (rg double x) := by unfold V; exact sg_abs _ _
  have hle : q * (4 * q64) ≤ 2 ^ 23 * (4 * q64) := by
    refine Nat.le_trans hq1 ?_
    rw [← hV, four_q, ← Nat.pow_add, Nat.add_comm 23]
    exact h.2
  have hq47 : q ≤ 2 ^ 23 := Nat.le_of_mul_le_mul_right hle (by have := q64_pos; omega)
  unfold Datum.toInt Datum.integral at hq
  rw [ex] at hq
  simp only [cut_zero] at hq
  rw [signed_sg, Nat.pow_zero, Nat.mul_one] at hq
  have hqe := sg_inj (Option.some.inj hq)
  unfold flr
  have e1 : (double.read x).integral .down = .number (sgn double x) (Toward.down.cut (sgn double x) (m <<< (double.leastPlace + e : Int).toNat) (-(double.leastPlace + e : Int)).toNat) 0 := by
    rw [ex]; rfl
  rw [e1]
  have hc := cut_le .down (sgn double x) (m <<< (double.leastPlace + e : Int).toNat) (-(double.leastPlace + e : Int)).toNat
  rw [hqe] at hc
  generalize Toward.down.cut (sgn double x) (m <<< (double.leastPlace + e : Int).toNat) (-(double.leastPlace + e : Int)).toNat = K at hc
  obtain ⟨f1, f2⟩ := float_int (sgn double x) K (by omega)
  refine ⟨f1, ?_⟩
  show (V double (double.nearest (sgn double x) K 0)).natAbs ≤ _
  rw [f2, sg_abs]
  exact Nat.mul_le_mul_right _ (by omega)
theorem fli_ok {x : Nat} (h : Bd x (D64 + 23)) : -9000000 ≤ fli x ∧ fli x ≤ 9000000 ∧ ∀ w : World, (convert 41 2 (.float .f64 (flr x))).run Try.prog w = .ok (.int .i64 (fli x)) w := by
  obtain ⟨f1, f2⟩ := flr_ok h
  obtain ⟨q, hq, hq1, _⟩ := toInt_fin f1
  have hV : (V double (flr x)).natAbs = mv double (rg double (flr x)) := by unfold V; exact sg_abs _ _
  have hle : q ≤ 2 ^ 23 + 1 := Nat.le_of_mul_le_mul_right (Nat.le_trans hq1 (by rw [← hV]; exact f2)) (by have := q64_pos; omega)
  have e : fli x = sg (sgn double (flr x)) q := by unfold fli; rw [hq]; rfl
  rw [e]
  refine ⟨by unfold sg; split <;> omega, by unfold sg; split <;> omega, fun w => conv_ok hq ?_ ?_ w⟩
  · unfold sg; split <;> omega
  · unfold sg; split <;> omega
theorem ti_ok {x : Nat} {s : Bool} {m : Nat} {p : Int} (nm : String) (way : Toward) (h : FloatKind.f64.decode x = .number s m p) :
    Extern.MathFloor.toIntegral nm way #[.float .f64 x] = pure (.float .f64 (FloatKind.f64.encode ((Datum.number s m p).integral way))) := by
  refine Eq.trans (b := Extern.MathFloor.toIntegral.match_1 (fun _ => Sem Value) (FloatKind.f64.decode x) _ _) rfl ?_
  rw [h]
theorem c_arch {x : Nat} (h : FinW double x) (w : World) : (callFunc 116 #[.float .f64 x]).run Try.prog w = .ok (.value (.float .f64 (flr x))) w := by
  rw [run_callFunc_extern (fn := Try.f116) (e := Extern.MathFloor.toIntegral "math.archFloor" .down) Try.func116 (by kernel_rfl) (by kernel_rfl) (by kernel_rfl) (by kernel_rfl)]
  obtain ⟨m, e, ex, vx⟩ := read_fin double h
  have e1 : FloatKind.f64.decode x = .number (sgn double x) m (double.leastPlace + e) := ex
  have e2 : flr x = FloatKind.f64.encode ((Datum.number (sgn double x) m (double.leastPlace + e)).integral .down) := by unfold flr; rw [ex]
  have e3 := ti_ok (x := x) "math.archFloor" .down e1
  rw [e3, e2]
  rfl
theorem floor_call (x : Nat) (w : World) (h : FinW double x) : Calls Try.prog 92 #[.float .f64 x] w fun e w' => e = .returned (.float .f64 (flr x)) ∧ w = w' := by
  have hc := fun w => c_arch h w
  clear h
  go_enter Try.func92, Try.ntmps92
  go_wp2
  go_ret
  exact ⟨rfl, rfl⟩

/-! ## the answer -/
def e1 (p : Nat) : Nat × Nat := hrun 129 0 (wl p)
def e2 (p : Nat) : Nat × Nat := drun 150 0 (e1 p).2
def tnI (p : Nat) : Int := fli (t2 (e2 p).2 (((e1 p).1 : Int) - ((e2 p).1 : Int)))

end Go.Proofs.Ythnifmgjgdmmoaa.logWalk
