/- Numbers of a ring: quotients, nearest multiples. -/
import Derived.Test.YtkjmlpdbnnmlhabRows
import Derived.Test.YtkjmlpdbnnmlhabFloats
import Derived.Test.YtkjmlpdbnnmlhabRound
import Derived.Test.YtkjmlpdbnnmlhabValues
import Derived.Test.YtkjmlpdbnnmlhabConv
import Derived.Test.YtkjmlpdbnnmlhabFWalk
import Derived.Test.YtkjmlpdbnnmlhabFinWalk
import Derived.Test.YtkjmlpdbnnmlhabFloat2
import Derived.Test.YtkjmlpdbnnmlhabFloat3
import Derived.Test.YtkjmlpdbnnmlhabPhase
import Derived.Test.YtkjmlpdbnnmlhabSine
import Derived.Test.YtkjmlpdbnnmlhabPhasor
import Derived.Test.YtkjmlpdbnnmlhabListC
import Derived.Test.YtkjmlpdbnnmlhabSteerNum
import Derived.WalkKit
import Derived.ProofKit
import Derived.OpenShut
import Derived.ShutString
import Derived.ChangeOld
import Derived.Below
import Derived.Lib.Hide
import Derived.BigQuiet
import Derived.Deep.QuietTactic
import Derived.WalkLawsBesides
import Derived.Outline
namespace Go.Proofs.Ytkjmlpdbnnmlhab.ringNum
open Go.ChangeShapes Go.WideShapes Go.ChangeAt Go.RowKit
open Go.ChangeMaps (open_string shut_string)
set_option linter.unusedVariables false
open Go Ieee
open Go.Proofs.Ytkjmlpdbnnmlhab.floats Go.Proofs.Ytkjmlpdbnnmlhab.round Go.Proofs.Ytkjmlpdbnnmlhab.values Go.Proofs.Ytkjmlpdbnnmlhab.conv Go.Proofs.Ytkjmlpdbnnmlhab.fWalk Go.Proofs.Ytkjmlpdbnnmlhab.finWalk Go.Proofs.Ytkjmlpdbnnmlhab.float2 Go.Proofs.Ytkjmlpdbnnmlhab.float3 Go.Proofs.Ytkjmlpdbnnmlhab.phase Go.Proofs.Ytkjmlpdbnnmlhab.sine Go.Proofs.Ytkjmlpdbnnmlhab.phasor Go.Proofs.Ytkjmlpdbnnmlhab.listC Go.Proofs.Ytkjmlpdbnnmlhab.steerNum

theorem cut_le (way : Toward) (neg : Bool) (n drop : Nat) : way.cut neg n drop ≤ n / 2 ^ drop + 1 := by
  unfold Toward.cut
  simp only [Nat.shiftLeft_eq, Nat.one_mul]
  have hb : ∀ b : Bool, b.toNat ≤ 1 := fun b => by cases b <;> simp
  by_cases h : drop ≤ n.log2 + 2
  · rw [Nat.min_eq_left h]
    exact Nat.add_le_add_left (hb _) _
  · have hn : n < 2 ^ (n.log2 + 1) := Nat.lt_log2_self
    rw [Nat.min_eq_right (by omega)]
    refine Nat.le_trans (Nat.add_le_add_left (hb _) _) ?_
    rw [Nat.div_eq_of_lt (Nat.lt_of_lt_of_le hn (Nat.pow_le_pow_right (by omega) (show n.log2 + 1 ≤ n.log2 + 2 by omega)))]
    exact Nat.add_le_add_right (Nat.zero_le _) 1
theorem sg_inj {s : Bool} {a b : Nat} (h : sg s a = sg s b) : a = b := by
  unfold sg at h; split at h <;> omega
/-- The nearest integer, as a number. -/
def rte (x : Nat) : Nat := FloatKind.f64.encode ((double.read x).integral .even)
theorem rte_ok {x : Nat} (h : Bd x (D64 + 47)) : FinW double (rte x) ∧ (V double (rte x)).natAbs ≤ (2 ^ 47 + 1) * (4 * q64) := by
  obtain ⟨m, e, ex, vx⟩ := read_fin double h.1
  obtain ⟨q, hq, hq1, _⟩ := toInt_fin h.1
  have hV : (V double x).natAbs = mv double (rg double x) := by unfold V; exact sg_abs _ _
  have hle : q * (4 * q64) ≤ 2 ^ 47 * (4 * q64) := by
    refine Nat.le_trans hq1 ?_
    rw [← hV, four_q, ← Nat.pow_add, Nat.add_comm 47]
    exact h.2
  have hq47 : q ≤ 2 ^ 47 := Nat.le_of_mul_le_mul_right hle (by have := q64_pos; omega)
  unfold Datum.toInt Datum.integral at hq
  rw [ex] at hq
  simp only [cut_zero] at hq
  rw [signed_sg, Nat.pow_zero, Nat.mul_one] at hq
  have hqe := sg_inj (Option.some.inj hq)
  unfold rte
  have e1 : (double.read x).integral .even = .number (sgn double x) (Toward.even.cut (sgn double x) (m <<< (double.leastPlace + e : Int).toNat) (-(double.leastPlace + e : Int)).toNat) 0 := by
    rw [ex]; rfl
  rw [e1]
  have hc := cut_le .even (sgn double x) (m <<< (double.leastPlace + e : Int).toNat) (-(double.leastPlace + e : Int)).toNat
  rw [hqe] at hc
  generalize Toward.even.cut (sgn double x) (m <<< (double.leastPlace + e : Int).toNat) (-(double.leastPlace + e : Int)).toNat = K at hc
  obtain ⟨f1, f2⟩ := float_int (sgn double x) K (by omega)
  refine ⟨f1, ?_⟩
  show (V double (double.nearest (sgn double x) K 0)).natAbs ≤ _
  rw [f2, sg_abs]
  exact Nat.mul_le_mul_right _ (by omega)
def rin (x : Nat) : Int := ((double.read (rte x)).toInt .zero).getD 0
theorem rin_ok {x : Nat} (h : Bd x (D64 + 47)) (w : World) : (convert 39 2 (.float .f64 (rte x))).run Try.prog w = .ok (.int .i64 (rin x)) w := by
  obtain ⟨f1, f2⟩ := rte_ok h
  obtain ⟨q, hq, hq1, _⟩ := toInt_fin f1
  have hV : (V double (rte x)).natAbs = mv double (rg double (rte x)) := by unfold V; exact sg_abs _ _
  have hle : q ≤ 2 ^ 47 + 1 := Nat.le_of_mul_le_mul_right (Nat.le_trans hq1 (by rw [← hV]; exact f2)) (by have := q64_pos; omega)
  have e : rin x = sg (sgn double (rte x)) q := by unfold rin; rw [hq]; rfl
  rw [e]
  refine conv_ok hq ?_ ?_ w
  · unfold sg; split <;> omega
  · unfold sg; split <;> omega

theorem two_pow_cast (d : Nat) : (2 : Int) ^ d = ((2 ^ d : Nat) : Int) := by simp
theorem nw_V {x : Nat} (h : Bd x (D64 + 34)) : (V single (nw x)).natAbs * 2 ^ 925 ≤ 2 ^ (D64 + 34) := by
  obtain ⟨r, hr, hrr⟩ := narrow_rnd h.1 (hi := 161 * 2 ^ 23) (by rw [inf32]; decide) (by rw [pw32]; exact h.2)
  have e : nw x = r := by unfold nw; rw [hr]; rfl
  rw [e]
  have hsw : 161 * 2 ^ 23 < single.signWeight := by rw [sw32]; decide
  have hf : ∀ s, FinW single (single.word s (161 * 2 ^ 23)) := fun s => by unfold FinW; rw [rg_word single s hsw, inf32]; decide
  have hv : ∀ s, V single (single.word s (161 * 2 ^ 23)) = sg s (mv single (161 * 2 ^ 23)) := fun s => V_word single s hsw
  have hcs := two_pow_cast 925
  have h1 := hrr.le _ (hf false)
  have h2 := hrr.ge _ (hf true)
  rw [hv] at h1 h2
  rw [hcs, sg_mul, pw32] at h1 h2
  have hb := h.2
  rw [← pw32]
  generalize mv single (161 * 2 ^ 23) = M at *
  generalize 2 ^ (D64 + 34) = E at *
  simp only [sg, Bool.false_eq_true, if_false, if_true] at h1 h2
  have h1' := h1 (by omega)
  have h2' := h2 (by omega)
  exact Nat.mul_le_mul_right _ (by omega)
theorem wd_bd {a : Nat} (h : FinW single a) (hb : (V single a).natAbs * 2 ^ 925 ≤ 2 ^ (D64 + 34)) : Bd (wd a) (D64 + 34) := by
  have hd := D64_is
  obtain ⟨r, hr, hrr⟩ := widen_rnd h
  have e : wd a = r := by unfold wd; rw [hr]; rfl
  rw [e]
  refine rnd_bd hrr (by omega) (by omega) ?_
  have hcs := two_pow_cast 925
  rw [hcs, Int.natAbs_mul, Int.natAbs_natCast, Nat.pow_zero, Nat.mul_one]
  exact hb
theorem int_bd (n : Int) (e : Nat) (h : n.natAbs ≤ 2 ^ e) (he : e ≤ 52) : Bd (floatOfInt .f64 n) (D64 + e) := by
  have e1 : floatOfInt .f64 n = double.nearest (decide (n < 0)) n.natAbs 0 := rfl
  obtain ⟨f1, f2⟩ := float_int (decide (n < 0)) n.natAbs (Nat.le_trans h (Nat.pow_le_pow_right (by omega) he))
  rw [← e1] at f1 f2
  refine ⟨f1, ?_⟩
  rw [f2, sg_abs, four_q, Nat.pow_add, Nat.mul_comm]
  exact Nat.mul_le_mul_left _ h
/-- The product of a part and a radius. -/
def pr (a : Nat) (r : Int) : Nat := bv .mul (wd a) (floatOfInt .f64 r)
theorem pr_ok {a : Nat} {r : Int} (h : FinW single a) (hb : (V single a).natAbs * 2 ^ 925 ≤ 2 ^ (D64 + 34)) (hr : r.natAbs ≤ 4096) : floatBits .mul .f64 (wd a) (floatOfInt .f64 r) = some (pr a r) ∧ Bd (pr a r) (D64 + 47) := by
  have hd := D64_is
  obtain ⟨p, hp, hbp, _⟩ := bd_mul (c := D64 + 47) (wd_bd h hb) (int_bd r 13 (Nat.le_trans hr (by decide)) (by omega)) (by omega) (by omega) (by omega)
  obtain ⟨e1, e2⟩ := bv_some hp
  exact ⟨e1, by unfold pr; rw [e2]; exact hbp⟩
/-- k / c. -/
def kq (k c : Int) : Nat := bv .quo (floatOfInt .f64 k) (floatOfInt .f64 c)
theorem kq_ok (k c : Int) (hk : k.natAbs ≤ 64) (hc : 1 ≤ c) (hc2 : c ≤ 64) : floatBits .quo .f64 (floatOfInt .f64 k) (floatOfInt .f64 c) = some (kq k c) ∧ FinW double (kq k c) ∧ (V double (kq k c)).natAbs < 4503599627370496 * (4 * q64) ∧ ((kq k c : Nat) : Int) ≤ 18446744073709551615 := by
  have hd := D64_is
  have hbk := int_bd k 6 (Nat.le_trans hk (by decide)) (by omega)
  have e1 : floatOfInt .f64 c = double.nearest (decide (c < 0)) c.natAbs 0 := rfl
  obtain ⟨f1, f2⟩ := float_int (decide (c < 0)) c.natAbs (by omega)
  rw [← e1] at f1 f2
  have hp := q64_pos
  have h1 : 2 ^ D64 ≤ (V double (floatOfInt .f64 c)).natAbs := by
    rw [f2, sg_abs, ← four_q]
    exact Nat.le_mul_of_pos_left _ (by omega)
  obtain ⟨r, hr, hbr⟩ := bd_quo hbk f1 h1 (by omega) (by omega)
  have hlt := quo_lt hbk.1 f1 (by have := Nat.two_pow_pos D64; omega) hr
  obtain ⟨e2, e3⟩ := bv_some hr
  have e4 : kq k c = r := e3
  refine ⟨e2, by rw [e4]; exact hbr.1, ?_, ?_⟩
  · rw [e4]
    refine Nat.lt_of_le_of_lt hbr.2 ?_
    rw [four_q, show D64 + 6 + 1 = 7 + D64 by omega, Nat.pow_add]
    exact Nat.mul_lt_mul_of_pos_right (by decide) (Nat.two_pow_pos _)
  · rw [e4]
    rw [sw64] at hlt
    omega
/-- A phasor, narrowed. -/
def phx (x : Nat) : Nat × Nat := (nw (ph64 (fr x)).1, nw (ph64 (fr x)).2)
theorem phx_ok {x : Nat} (h : FinW double x) (h2 : (V double x).natAbs < 4503599627370496 * (4 * q64)) :
    (FinW single (phx x).1 ∧ (V single (phx x).1).natAbs * 2 ^ 925 ≤ 2 ^ (D64 + 34)) ∧ (FinW single (phx x).2 ∧ (V single (phx x).2).natAbs * 2 ^ 925 ≤ 2 ^ (D64 + 34)) := by
  obtain ⟨_, _, _, _, _, _, _, _, hi4⟩ := fr_ok h h2
  obtain ⟨b1, b2⟩ := ph_bd hi4
  exact ⟨⟨(nw_ok b1).2, nw_V b1⟩, ⟨(nw_ok b2).2, nw_V b2⟩⟩
theorem phx_impl (x : Nat) (w : World) (hx : (x : Int) ≤ 18446744073709551615) (h : FinW double x) (h2 : (V double x).natAbs < 4503599627370496 * (4 * q64)) :
    Calls Try.prog 220 #[.float .f64 x] w fun e w' => e = .returned (.complex .f32 (phx x).1 (phx x).2) ∧ w = w' := by
  obtain ⟨a1, a2⟩ := abs_V h
  exact ph_impl x w hx h h2 (lt_is a1 F_52 (by rw [V_52, a2]; omega))
theorem phx_spec (x : Nat) (w : World) (h : FinW double x) (h2 : (V double x).natAbs < 4503599627370496 * (4 * q64)) :
    Calls Try.prog 212 #[.float .f64 x] w fun e w' => e = .returned (.complex .f32 (phx x).1 (phx x).2) ∧ w = w' :=
  ph_spec x w h h2
theorem ti_ok {x : Nat} {s : Bool} {m : Nat} {p : Int} (nm : String) (way : Toward) (h : FloatKind.f64.decode x = .number s m p) :
    Extern.MathFloor.toIntegral nm way #[.float .f64 x] = pure (.float .f64 (FloatKind.f64.encode ((Datum.number s m p).integral way))) := by
  refine Eq.trans (b := Extern.MathFloor.toIntegral.match_1 (fun _ => Sem Value) (FloatKind.f64.decode x) _ _) rfl ?_
  rw [h]
theorem c_rte {x : Nat} (h : Bd x (D64 + 47)) (w : World) : (callFunc 214 #[.float .f64 x]).run Try.prog w = .ok (.value (.float .f64 (rte x))) w := by
  rw [run_callFunc_extern (fn := Try.f214) (e := Extern.MathFloor.toIntegral "math.RoundToEven" .even) Try.func214 (by kernel_rfl) (by kernel_rfl) (by kernel_rfl) (by kernel_rfl)]
  obtain ⟨m, e, ex, vx⟩ := read_fin double h.1
  have e1 : FloatKind.f64.decode x = .number (sgn double x) m (double.leastPlace + e) := ex
  have e2 : rte x = FloatKind.f64.encode ((Datum.number (sgn double x) m (double.leastPlace + e)).integral .even) := by unfold rte; rw [ex]
  have e3 := ti_ok (x := x) "math.RoundToEven" .even e1
  rw [e3, e2]
  rfl

/-- The place with the index k; the first k places. -/
def rpl (c r : Int) (k : Nat) : Int × Int := (rin (pr (phx (kq (k : Int) c)).1 r), rin (pr (phx (kq (k : Int) c)).2 r))
def rgl (c r : Int) (k : Nat) : List (Int × Int) := (List.range k).map (rpl c r)
theorem rgl_len (c r : Int) (k : Nat) : (rgl c r k).length = k := by simp [rgl]
theorem rgl_succ (c r : Int) (k : Nat) : rgl c r (k + 1) = rgl c r k ++ [rpl c r k] := by simp [rgl, List.range_succ]
theorem rgl_at (c r : Int) (n k : Nat) (hk : k < n) : (rgl c r n).getD k (0, 0) = rpl c r k := by simp [rgl, List.getD, hk]

end Go.Proofs.Ytkjmlpdbnnmlhab.ringNum
