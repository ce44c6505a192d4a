/- Whether a 32-bit number is finite, by the program and by the model. -/
/- Halving and doubling, the series of a logarithm, bounds. -/
/- Tenths of decibels of a positive number, by the program and by the model. -/
/- Tenths of decibels: the walks. -/
/- Tenths of decibels by the model. -/
/- Tenths of decibels of any number, by the program and by the model. -/
/- Tenths of decibels are not great. -/
import Derived.Test.YtkjmlpdbnnmlhabRows
import Derived.Test.YtkjmlpdbnnmlhabFloatAll
import Derived.Test.YtkjmlpdbnnmlhabFWalk
import Derived.Test.YtkjmlpdbnnmlhabFinWalk
import Derived.Test.YtkjmlpdbnnmlhabFlAll
import Derived.WalkKit
import Derived.ProofKit
import Derived.OpenShut
import Derived.ShutString
import Derived.ChangeOld
import Derived.Below
import Derived.Lib.Hide
import Derived.BigQuiet
import Derived.Deep.QuietTactic
import Derived.WalkLawsBesides
import Derived.Outline
import Derived.Deep.LoopGhost
namespace Go.Proofs.Ytkjmlpdbnnmlhab.finBoth
open Go.ChangeShapes Go.WideShapes Go.ChangeAt Go.RowKit
open Go.ChangeMaps (open_string shut_string)
set_option linter.unusedVariables false
open Ieee
open Go.Proofs.Ytkjmlpdbnnmlhab.floats Go.Proofs.Ytkjmlpdbnnmlhab.round Go.Proofs.Ytkjmlpdbnnmlhab.values Go.Proofs.Ytkjmlpdbnnmlhab.conv Go.Proofs.Ytkjmlpdbnnmlhab.fWalk Go.Proofs.Ytkjmlpdbnnmlhab.finWalk
theorem cv3264 (w : World) (b : Nat) : (convert 61 39 (.float .f32 b)).run Try.prog w = .ok (.float .f64 (cval .f32 w b .f64)) (w.drewN (ccnt .f32 b .f64)) :=
  run_convff w _ _ .f32 .f64 b (by rw [Try.underlying61]; rfl) Try.underlying39
attribute [local go_sem] cv3264 run_fsub
theorem below_drewN (w : World) (n : Nat) : Below w.heap.size w (w.drewN n) := ⟨rfl, rfl, rfl, Nat.le_refl _, fun _ _ => rfl⟩
theorem widen_lt (x : Nat) (w : World) (hx : (Lit.float .f32 x).wf = true) : ((cval .f32 w x .f64 : Nat) : Int) ≤ 18446744073709551615 := by
  have : cval .f32 w x .f64 < 18446744073709551616 := by
    unfold cval
    cases h : floatToFloatBits .f32 x .f64 with
    | some r => have := floatToFloatBits_wf hx h; simpa [Lit.wf] using this
    | none =>
      unfold convQ
      cases FloatKind.f32.decode x <;> simp only [Question.cut] <;> omega
  omega
theorem widen_fin (x : Nat) (w : World) : FinW double (cval .f32 w x .f64) ↔ FinW single x := by
  constructor
  · intro h
    rcases kinds32 x with h1 | ⟨s, h1, _⟩ | h1
    · exact h1
    · have e : floatToFloatBits .f32 x .f64 = some (FloatKind.f64.encode (.infinity s)) := by
        unfold floatToFloatBits
        rw [if_neg (by decide)]
        show (match single.read x with | .nan _ _ => none | .infinity s => some (FloatKind.f64.encode (.infinity s)) | .number s m e => if (FloatKind.f64.decode (FloatKind.f64.encode (.number s m e))).isInfinity then none else some (FloatKind.f64.encode (.number s m e))) = _
        rw [h1]
      have e2 : cval .f32 w x .f64 = FloatKind.f64.encode (.infinity s) := by unfold cval; rw [e]
      rw [e2] at h
      exfalso
      unfold FinW rg at h; rw [sw64, inf64] at h
      cases s
      · exact absurd h (by decide +kernel)
      · exact absurd h (by decide +kernel)
    · have := widen_nan w x
      rw [h1, fin_not_nan (k := .f64) h] at this
      cases this
  · intro h
    obtain ⟨r, hr, hrr⟩ := widen_rnd h
    have e : cval .f32 w x .f64 = r := by unfold cval; rw [hr]
    rw [e]; exact hrr.fin

theorem sub_zero {x : Nat} (h : FinW single x) (w : World) : (FloatKind.f32.format.order (fval .sub .f32 w x x) 0 == some .eq) = true := by
  obtain ⟨r, hr, hrr⟩ := sub_rnd single h h (hi := 0) (by rw [inf32]; decide) (by simp)
  have e : fval .sub .f32 w x x = r := by unfold fval floatBits; rw [fmt32, hr]
  have hz : FinW single 0 := by unfold FinW rg; rw [sw32, inf32]; decide
  have v0 : V single 0 = 0 := by decide +kernel
  have h1 := hrr.le 0 hz (by rw [v0]; simp)
  have h2 := hrr.ge 0 hz (by rw [v0]; simp)
  rw [v0] at h1 h2
  have hv : V single r = 0 := by omega
  rw [e]
  show (single.order r 0 == _) = true
  rw [order_fin single hrr.fin hz, hv, v0]; rfl
theorem sub_not {x : Nat} (h : ¬ FinW single x) (w : World) : (FloatKind.f32.format.order (fval .sub .f32 w x x) 0 == some .eq) = false := by
  have hb : floatBits .sub .f32 x x = none := by
    rcases kinds32 x with h1 | ⟨s, h1, _⟩ | h1
    · exact absurd h1 h
    · show single.sub x x = none
      unfold Format.sub; rw [h1]; cases s <;> rfl
    · exact floatBits_nan_l h1
  have hn : isNaN .f32 (fval .sub .f32 w x x) = true := by
    unfold fval; rw [hb]; exact nanBits_nan .f32 x x _
  rw [order_nan_l hn]; rfl

theorem impl_any (x : Nat) (w : World) (hx : (Lit.float .f32 x).wf = true) (b : Bool) (hb : b = true ↔ FinW single x) :
    Calls Try.prog 196 #[.float .f32 x] w fun e w' => e = .returned (.bool b) ∧ ∃ n, w.drewN n = w' := by
  have hl := fun w => widen_lt x w hx
  go_enter Try.func196, Try.ntmps196
  go_wp2_with fail
  cases b
  · refine (fin_no _ _ (hl _) (by rw [widen_fin, ← hb]; simp)).mono ?_
    rintro e w' ⟨rfl, rfl⟩
    clear hb
    go_wp2_with fail
    go_ret
    exact ⟨rfl, _, rfl⟩
  · refine (fin_yes _ _ (hl _) (by rw [widen_fin, ← hb])).mono ?_
    rintro e w' ⟨rfl, rfl⟩
    clear hb
    go_wp2_with fail
    go_ret
    exact ⟨rfl, _, rfl⟩
theorem spec_l01 (x : Nat) (w : World) (b : Bool) (hb : ∀ w, (FloatKind.f32.format.order (fval .sub .f32 w x x) 0 == some .eq) = b) :
    Calls Try.prog 267 #[.float .f32 x] w fun e w' => e = .returned (.bool b) ∧ ∃ n, w.drewN n = w' := by
  go_enter Try.func267, Try.ntmps267
  go_wp2
  go_ret
  exact ⟨rfl, _, rfl⟩

end Go.Proofs.Ytkjmlpdbnnmlhab.finBoth

namespace Go.Proofs.Ytkjmlpdbnnmlhab.logNum
set_option linter.unusedVariables false
open Go Ieee
open Go.Proofs.Ytkjmlpdbnnmlhab.floats Go.Proofs.Ytkjmlpdbnnmlhab.round Go.Proofs.Ytkjmlpdbnnmlhab.values Go.Proofs.Ytkjmlpdbnnmlhab.conv Go.Proofs.Ytkjmlpdbnnmlhab.float2 Go.Proofs.Ytkjmlpdbnnmlhab.float3 Go.Proofs.Ytkjmlpdbnnmlhab.phase

/-- A positive word that is not small. -/
structure Nrm (y : Nat) : Prop where
  lo : 2 ^ 52 ≤ y
  hi : y < double.infRung
theorem Nrm.fin {y : Nat} (h : Nrm y) : FinW double y ∧ V double y = (mv double y : Int) ∧ rg double y = y ∧ sgn double y = false := by
  have h2 := inf_lt_sw double
  have h3 := h.hi
  have e : rg double y = y := Nat.mod_eq_of_lt (by omega)
  have e2 : sgn double y = false := by unfold sgn; rw [Nat.div_eq_of_lt (by omega)]; rfl
  refine ⟨by unfold FinW; rw [e]; exact h3, ?_, e, e2⟩
  unfold V; rw [e, e2]; rfl
theorem Nrm.parts {y : Nat} (h : Nrm y) : ∃ L K, y = L * 2 ^ 52 + K ∧ 2 ^ 52 ≤ K ∧ K < 2 * 2 ^ 52 ∧ double.read y = .number false K (double.leastPlace + (L : Nat)) := by
  obtain ⟨_, _, e1, e2⟩ := h.fin
  have h1 := h.lo
  refine ⟨y / 2 ^ 52 - 1, 2 ^ 52 + y % 2 ^ 52, ?_, by omega, by omega, ?_⟩
  · omega
  · unfold rg at e1
    unfold sgn at e2
    unfold Format.read
    dsimp only
    rw [e1, e2, if_neg (by rw [bi_pow]; omega), if_pos h.hi, bi_pow]
theorem read_two : double.read 4611686018427387904 = .number false (2 ^ 52) (double.leastPlace + (1023 : Nat)) := by decide +kernel
def hf (y : Nat) : Nat := bv .quo y 4611686018427387904
def df (y : Nat) : Nat := bv .mul y 4611686018427387904
theorem log52 {K : Nat} (h1 : 2 ^ 52 ≤ K) (h2 : K < 2 * 2 ^ 52) : K.log2 = 52 := by
  have h3 : K ≠ 0 := by intro e; subst e; simp at h1
  have a := (Nat.le_log2 h3).2 h1
  have b := (Nat.log2_lt h3).2 (show K < 2 ^ 53 by omega)
  omega
theorem pow_sh (K : Nat) {a b c d : Nat} (h : a + b = c + d) : K * 2 ^ a * 2 ^ b = K * 2 ^ c * 2 ^ d := by
  rw [Nat.mul_assoc, Nat.mul_assoc, ← Nat.pow_add, ← Nat.pow_add, h]
theorem exact_near {mag p d c : Nat} {place : Int} (hp : place = double.leastPlace + p - d) (hc : Nrm c) (hmag : mag * 2 ^ p = mv double c * 2 ^ d) :
    Nrm (double.nearest false mag place) ∧ V double (double.nearest false mag place) = V double c := by
  obtain ⟨cf, cv, _, _⟩ := hc.fin
  have hh := nearest_rnd double false mag place hp hc.hi (Nat.le_of_eq hmag)
  obtain ⟨⟨r, hr, ew⟩, hx⟩ := And.intro hh.2 hh.1
  have er2 : double.nearest false mag place = r := by rw [ew]; exact if_neg (by decide)
  have hv : V double (double.nearest false mag place) = V double c := rnd_exact hx cf (by rw [cv, hmag]; simp [sg])
  refine ⟨?_, hv⟩
  rw [er2] at hv ⊢
  refine ⟨?_, by have := hc.hi; omega⟩
  rcases Nat.lt_or_ge r (2 ^ 52) with hlt | hge
  · exfalso
    have hi2 := hc.hi
    have hsm : mv double r = r := by unfold mv; rw [if_pos (by rw [bi_pow]; exact hlt)]
    have h5 := inf_lt_sw double
    have e5 : rg double r = r := Nat.mod_eq_of_lt (by omega)
    have e6 : sgn double r = false := by unfold sgn; rw [Nat.div_eq_of_lt (by omega)]; rfl
    have h6 : V double r = (r : Int) := by unfold V; rw [e5, e6, hsm]; rfl
    have h8 := mv_mono double hc.lo
    rw [show mv double (2 ^ 52) = 2 ^ 52 by decide +kernel] at h8
    rw [h6, cv] at hv
    omega
  · exact hge
theorem half_ok {y : Nat} (h : Nrm y) (h2 : 2 * 2 ^ 52 ≤ y) : floatBits .quo .f64 y 4611686018427387904 = some (hf y) ∧ Nrm (hf y) ∧ 2 * V double (hf y) = V double y := by
  obtain ⟨L, K, e, k1, k2, er⟩ := h.parts
  obtain ⟨L', rfl⟩ : ∃ L', L = L' + 1 := ⟨L - 1, by omega⟩
  have hi := h.hi
  have hc : Nrm (L' * 2 ^ 52 + K) := ⟨by omega, by omega⟩
  obtain ⟨cf, cv, _, _⟩ := hc.fin
  obtain ⟨yf, yv, _, _⟩ := h.fin
  rw [e, mv_block k1 k2] at yv
  rw [← e] at yv
  rw [mv_block k1 k2] at cv
  have hK : (K <<< 54) / 2 ^ 52 = K * 4 ∧ (K <<< 54) % 2 ^ 52 = 0 := by rw [Nat.shiftLeft_eq]; omega
  have hq : floatBits .quo .f64 y 4611686018427387904 = some (double.nearest false (K * 8) (double.leastPlace + (L' + 1 : Nat) - (double.leastPlace + (1023 : Nat)) - (54 : Nat) - 1)) := by
    show double.div y 4611686018427387904 = _
    unfold Format.div
    rw [er, read_two]
    unfold Datum.quotient
    dsimp only
    rw [if_neg (by decide), show (2 ^ 52 : Nat).log2 = 52 by decide +kernel, log52 k1 k2]
    show some (double.nearest false (2 * ((K <<< 54) / 2 ^ 52) + ((K <<< 54) % 2 ^ 52 != 0).toNat) _) = _
    rw [hK.1, hK.2, show 2 * (K * 4) + ((0 : Nat) != 0).toNat = K * 8 by show 2 * (K * 4) + 0 = _; omega]
    rfl
  have hmag : K * 8 * 2 ^ (L' + 1) = mv double (L' * 2 ^ 52 + K) * 2 ^ 4 := by
    rw [mv_block k1 k2, Nat.pow_succ, Nat.mul_mul_mul_comm]
  obtain ⟨n1, n2⟩ := exact_near (mag := K * 8) (place := double.leastPlace + (L' + 1 : Nat) - (double.leastPlace + (1023 : Nat)) - (54 : Nat) - 1) (p := L' + 1) (d := 4) (by rw [lpD, D64_is]; omega) hc hmag
  obtain ⟨b1, b2⟩ := bv_some hq
  have b3 : hf y = _ := b2
  refine ⟨b1, by rw [b3]; exact n1, ?_⟩
  rw [b3, n2, cv, yv, Nat.pow_succ, ← Nat.mul_assoc]
  omega

theorem dbl_ok {y : Nat} (h : Nrm y) (h2 : y + 2 * 2 ^ 52 ≤ double.infRung) : floatBits .mul .f64 y 4611686018427387904 = some (df y) ∧ Nrm (df y) ∧ V double (df y) = 2 * V double y := by
  obtain ⟨L, K, e, k1, k2, er⟩ := h.parts
  have hi := h.hi
  have hc : Nrm ((L + 1) * 2 ^ 52 + K) := ⟨by omega, by omega⟩
  obtain ⟨cf, cv, _, _⟩ := hc.fin
  obtain ⟨yf, yv, _, _⟩ := h.fin
  rw [e, mv_block k1 k2] at yv
  rw [← e] at yv
  rw [mv_block k1 k2] at cv
  have hcv : V double ((L + 1) * 2 ^ 52 + K) = 2 * V double y := by
    have hp : 0 < 2 ^ L := Nat.two_pow_pos _
    rw [cv, yv, Nat.pow_succ, ← Nat.mul_assoc]; omega
  have hmag : K * 2 ^ 52 * 2 ^ (L + 1023) = mv double ((L + 1) * 2 ^ 52 + K) * 2 ^ D64 := by
    rw [mv_block k1 k2]
    exact pow_sh K (by rw [D64_is]; omega)
  have hm : floatBits .mul .f64 y 4611686018427387904 = some (double.nearest false (K * 2 ^ 52) (double.leastPlace + (L : Nat) + (double.leastPlace + (1023 : Nat)))) := by
    show double.mul y 4611686018427387904 = _
    unfold Format.mul
    rw [er, read_two]
    rfl
  obtain ⟨n1, n2⟩ := exact_near (mag := K * 2 ^ 52) (place := double.leastPlace + (L : Nat) + (double.leastPlace + (1023 : Nat))) (p := L + 1023) (d := D64) (by rw [lpD, D64_is]; omega) hc hmag
  obtain ⟨b1, b2⟩ := bv_some hm
  have b3 : df y = _ := b2
  refine ⟨b1, by rw [b3]; exact n1, by rw [b3, n2, hcv]⟩

/-! ## the two loops -/
theorem V15 : V double 4609434218613702656 = 6 * (q64 : Int) := by decide +kernel
theorem V75 : V double 4604930618986332160 = 3 * (q64 : Int) := V_34
theorem F15 : FinW double 4609434218613702656 := by unfold FinW; decide +kernel
/-- Down: how often, and what is left. -/
def hrun : Nat → Nat → Nat → Nat × Nat
  | 0, i, y => (i, y)
  | n + 1, i, y => if 6 * (q64 : Int) ≤ V double y then hrun n (i + 1) (hf y) else (i, y)
def drun : Nat → Nat → Nat → Nat × Nat
  | 0, i, y => (i, y)
  | n + 1, i, y => if V double y < 3 * (q64 : Int) then drun n (i + 1) (df y) else (i, y)
/-- A word between: at most 2^k times 1.5 with k steps down left, and not too small. -/
structure Hw (y k : Nat) : Prop where
  nrm : Nrm y
  up : V double y < 6 * (q64 : Int) * 2 ^ k
  lo : 3 * (q64 : Int) ≤ V double y * 2 ^ 149
theorem h_step {y k : Nat} (h : Hw y (k + 1)) (h2 : 6 * (q64 : Int) ≤ V double y) : floatBits .quo .f64 y 4611686018427387904 = some (hf y) ∧ Hw (hf y) k := by
  have h3 : 2 * 2 ^ 52 ≤ y := by
    rcases Nat.lt_or_ge y (2 * 2 ^ 52) with hlt | hge
    · exfalso
      obtain ⟨_, v, _, _⟩ := h.nrm.fin
      have h4 := mv_mono double (Nat.le_of_lt hlt)
      have h5 : mv double (2 * 2 ^ 52) < 6 * q64 := by decide +kernel
      omega
    · exact hge
  obtain ⟨a, b, c⟩ := half_ok h.nrm h3
  refine ⟨a, b, ?_, by have := q64_pos; omega⟩
  have hu := h.up
  rw [Int.pow_succ, ← Int.mul_assoc] at hu
  omega
theorem h_end {y : Nat} (h : Hw y 0) : V double y < 6 * (q64 : Int) := by have := h.up; simpa using this
structure Dw (y k : Nat) : Prop where
  nrm : Nrm y
  up : V double y < 6 * (q64 : Int)
  lo : 3 * (q64 : Int) ≤ V double y * 2 ^ k
theorem d_step {y k : Nat} (h : Dw y (k + 1)) (h2 : V double y < 3 * (q64 : Int)) : floatBits .mul .f64 y 4611686018427387904 = some (df y) ∧ Dw (df y) k := by
  have h3 : y + 2 * 2 ^ 52 ≤ double.infRung := by
    rcases Nat.lt_or_ge 4604930618986332160 y with hlt | hge
    · exfalso
      obtain ⟨_, v, _, _⟩ := h.nrm.fin
      have h4 := mv_mono double (Nat.le_of_lt hlt)
      have h5 : mv double 4604930618986332160 = 3 * q64 := by decide +kernel
      omega
    · rw [inf_pow]; omega
  obtain ⟨a, b, c⟩ := dbl_ok h.nrm h3
  refine ⟨a, b, by omega, ?_⟩
  have hu := h.lo
  rw [Int.pow_succ] at hu
  rw [c, Int.mul_comm 2, Int.mul_assoc, Int.mul_comm 2]
  exact hu
theorem d_end {y : Nat} (h : Dw y 0) : 3 * (q64 : Int) ≤ V double y := by have := h.lo; simpa using this

/-! ## the series -/
theorem bd_add {x y a : Nat} (hx : Bd x a) (hy : Bd y a) (h1 : 52 ≤ a + 1) (h2 : a + 1 ≤ 2097) :
    ∃ r, floatBits .add .f64 x y = some r ∧ Bd r (a + 1) := by
  have hb : (V double x + V double y).natAbs ≤ 2 ^ (a + 1) := by
    have := hx.2
    have := hy.2
    rw [pow_succ']
    omega
  obtain ⟨r, hr, hrr⟩ := add_rnd double hx.1 hy.1 (pw_inf h2) (by rw [mv_pw h1]; exact hb)
  exact ⟨r, hr, rnd_bd hrr h1 h2 (by rw [Nat.pow_zero, Nat.mul_one]; exact hb)⟩
theorem fint_bd (n : Int) (e : Nat) (h : n.natAbs ≤ 2 ^ e) (he : e ≤ 52) : Bd (floatOfInt .f64 n) (D64 + e) ∧ (V double (floatOfInt .f64 n)).natAbs = n.natAbs * 2 ^ D64 := by
  have e1 : floatOfInt .f64 n = double.nearest (decide (n < 0)) n.natAbs 0 := rfl
  obtain ⟨f1, f2⟩ := float_int (decide (n < 0)) n.natAbs (Nat.le_trans h (Nat.pow_le_pow_right (by omega) he))
  rw [← e1] at f1 f2
  have h3 : (V double (floatOfInt .f64 n)).natAbs = n.natAbs * 2 ^ D64 := by rw [f2, sg_abs, four_q]
  refine ⟨⟨f1, ?_⟩, h3⟩
  rw [h3, Nat.pow_add, Nat.mul_comm]
  exact Nat.mul_le_mul_left _ h
theorem one_bd : Bd 4607182418800017408 D64 := ⟨F_one, by rw [V_one, ← four_q]; omega⟩
theorem cst_bd {c e : Nat} (h : (decide (rg double c < double.infRung) && decide ((V double c).natAbs ≤ 2 ^ (1074 + e))) = true) : Bd c (D64 + e) := by
  rw [Bool.and_eq_true, decide_eq_true_eq, decide_eq_true_eq] at h
  exact ⟨h.1, h.2⟩
theorem two_bd : Bd 4611686018427387904 (D64 + 1) := cst_bd (by decide +kernel)
theorem ln2_bd : Bd 4604418534313441775 (D64 + 0) := cst_bd (by decide +kernel)
theorem dec_bd : Bd 4631308968768463603 (D64 + 6) := cst_bd (by decide +kernel)
theorem half_bd : Bd 4602678819172646912 (D64 + 0) := cst_bd (by decide +kernel)
/-- y less 1, y and 1, their quotient, its square. -/
def ym (y : Nat) : Nat := bv .sub y 4607182418800017408
def yp (y : Nat) : Nat := bv .add y 4607182418800017408
def ys (y : Nat) : Nat := bv .quo (ym y) (yp y)
def yu (y : Nat) : Nat := bv .mul (ys y) (ys y)
def kf (j : Nat) : Int := 25 - 2 * (j : Int)
def rk (j : Nat) : Nat := bv .quo 4607182418800017408 (floatOfInt .f64 (kf j))
def qv (u : Nat) : Nat → Nat
  | 0 => 0
  | j + 1 => bv .add (rk j) (bv .mul u (qv u j))
theorem y_ok {y : Nat} (h : Nrm y) (h1 : 3 * (q64 : Int) ≤ V double y) (h2 : V double y < 6 * (q64 : Int)) :
    floatBits .sub .f64 y 4607182418800017408 = some (ym y) ∧ floatBits .add .f64 y 4607182418800017408 = some (yp y) ∧ floatBits .quo .f64 (ym y) (yp y) = some (ys y) ∧ Bd (ys y) D64 ∧
      floatBits .mul .f64 (ys y) (ys y) = some (yu y) ∧ Bd (yu y) D64 := by
  obtain ⟨yf, _, _, _⟩ := h.fin
  have q4 := four_q
  have hq : 2 ^ (D64 - 1) = 2 * q64 := by rw [D64_is]; decide +kernel
  have hd : (V double y - V double 4607182418800017408).natAbs ≤ 2 ^ (D64 - 1) := by rw [V_one, hq]; omega
  obtain ⟨r, hr, hrr⟩ := sub_rnd double yf F_one (hi := pw (D64 - 1)) (pw_inf (by rw [D64_is]; decide)) (by rw [mv_pw (by rw [D64_is]; decide)]; exact hd)
  have rb : Bd r (D64 - 1) := rnd_bd hrr (by rw [D64_is]; decide) (by rw [D64_is]; decide) (by rw [Nat.pow_zero, Nat.mul_one]; exact hd)
  have hr' : floatBits .sub .f64 y 4607182418800017408 = some r := hr
  obtain ⟨a1, a2⟩ := bv_some hr'
  have a3 : ym y = r := a2
  have hs : (V double y + V double 4607182418800017408).natAbs ≤ 2 ^ (D64 + 2) := by
    rw [V_one, show D64 + 2 = (D64 + 1) + 1 from rfl, pow_succ', pow_succ', ← q4]; omega
  obtain ⟨t, ht, htt⟩ := add_rnd double yf F_one (hi := pw (D64 + 2)) (pw_inf (by rw [D64_is]; decide)) (by rw [mv_pw (by rw [D64_is]; decide)]; exact hs)
  have ht' : floatBits .add .f64 y 4607182418800017408 = some t := ht
  obtain ⟨b1, b2⟩ := bv_some ht'
  have b3 : yp y = t := b2
  have hone := htt.ge _ F_one (by rw [Int.pow_zero, Int.mul_one]; have := q64_pos; omega)
  rw [V_one] at hone
  obtain ⟨s, hs1, hs2⟩ := bd_quo rb htt.fin (by rw [← q4]; omega) (by rw [D64_is]; decide) (by rw [D64_is]; decide)
  rw [show D64 - 1 + 1 = D64 by rw [D64_is]] at hs2
  rw [← a3, ← b3] at hs1
  obtain ⟨c1, c2⟩ := bv_some hs1
  have c3 : ys y = s := c2
  rw [← c3] at hs2
  obtain ⟨u, hu, hu2, _⟩ := bd_mul hs2 hs2 (c := D64) (by omega) (by rw [D64_is]; decide) (by rw [D64_is]; decide)
  obtain ⟨d1, d2⟩ := bv_some hu
  have d3 : yu y = u := d2
  exact ⟨a1, b1, c1, hs2, d1, by rw [d3]; exact hu2⟩
theorem q_ok {u : Nat} (hu : Bd u D64) (j : Nat) (hj : j ≤ 13) : Bd (qv u j) (D64 + j + 1) ∧ (j < 13 →
    floatBits .quo .f64 4607182418800017408 (floatOfInt .f64 (kf j)) = some (rk j) ∧ floatBits .mul .f64 u (qv u j) = some (bv .mul u (qv u j)) ∧ floatBits .add .f64 (rk j) (bv .mul u (qv u j)) = some (qv u (j + 1))) := by
  have key : ∀ j, j < 13 → Bd (qv u j) (D64 + j + 1) → (floatBits .quo .f64 4607182418800017408 (floatOfInt .f64 (kf j)) = some (rk j) ∧ floatBits .mul .f64 u (qv u j) = some (bv .mul u (qv u j)) ∧ floatBits .add .f64 (rk j) (bv .mul u (qv u j)) = some (qv u (j + 1))) ∧ Bd (qv u (j + 1)) (D64 + j + 2) := by
    intro j hj hb
    have hk : (kf j).natAbs ≤ 2 ^ 5 ∧ 1 ≤ (kf j).natAbs := by unfold kf; omega
    obtain ⟨k1, k2⟩ := fint_bd (kf j) 5 hk.1 (by decide)
    obtain ⟨r, hr, hrb⟩ := bd_quo one_bd k1.1 (by rw [k2]; exact Nat.le_mul_of_pos_left _ hk.2) (by rw [D64_is]; decide) (by rw [D64_is]; decide)
    obtain ⟨a1, a2⟩ := bv_some hr
    have a3 : rk j = r := a2
    obtain ⟨m, hm, hmb, _⟩ := bd_mul hu hb (c := D64 + j + 1) (by omega) (by rw [D64_is]; omega) (by rw [D64_is]; omega)
    obtain ⟨b1, b2⟩ := bv_some hm
    obtain ⟨t, ht, htb⟩ := bd_add (hrb.mono (b := D64 + j + 1) (by omega)) hmb (by rw [D64_is]; omega) (by rw [D64_is]; omega)
    rw [← a3, ← b2] at ht
    obtain ⟨c1, c2⟩ := bv_some ht
    have c3 : qv u (j + 1) = t := c2
    exact ⟨⟨a1, b1, c1⟩, by rw [c3]; exact htb⟩
  have hall : ∀ j, j ≤ 13 → Bd (qv u j) (D64 + j + 1) := by
    intro j
    induction j with
    | zero => intro _; exact ⟨F_zero, by show (V double 0).natAbs ≤ _; rw [V_zero]; exact Nat.zero_le _⟩
    | succ j ih => intro h; exact (key j (by omega) (ih (by omega))).2
  exact ⟨hall j hj, fun h => (key j h (hall j hj)).1⟩
/-- What is multiplied and added at the end. -/
def l1 (y : Nat) : Nat := bv .mul (ys y) (qv (yu y) 13)
def l2 (y : Nat) : Nat := bv .mul 4611686018427387904 (l1 y)
def l3 (e : Int) : Nat := bv .mul (floatOfInt .f64 e) 4604418534313441775
def lg (y : Nat) (e : Int) : Nat := bv .add (l2 y) (l3 e)
def t1 (y : Nat) (e : Int) : Nat := bv .mul (lg y e) 4631308968768463603
def t2 (y : Nat) (e : Int) : Nat := bv .add (t1 y e) 4602678819172646912
theorem l_ok {y : Nat} {e : Int} (hs : Bd (ys y) D64) (hu : Bd (yu y) D64) (he : e.natAbs ≤ 2 ^ 8) :
    floatBits .mul .f64 (ys y) (qv (yu y) 13) = some (l1 y) ∧ floatBits .mul .f64 4611686018427387904 (l1 y) = some (l2 y) ∧ floatBits .mul .f64 (floatOfInt .f64 e) 4604418534313441775 = some (l3 e) ∧
      floatBits .add .f64 (l2 y) (l3 e) = some (lg y e) ∧ floatBits .mul .f64 (lg y e) 4631308968768463603 = some (t1 y e) ∧ floatBits .add .f64 (t1 y e) 4602678819172646912 = some (t2 y e) ∧ Bd (t2 y e) (D64 + 23) := by
  have hq := (q_ok hu 13 (by omega)).1
  obtain ⟨a, ha, hab, _⟩ := bd_mul hs hq (c := D64 + 14) (by omega) (by rw [D64_is]; decide) (by rw [D64_is]; decide)
  obtain ⟨a1, a2⟩ := bv_some ha
  have a3 : l1 y = a := a2
  rw [← a3] at hab
  obtain ⟨b, hb, hbb, _⟩ := bd_mul two_bd hab (c := D64 + 15) (by omega) (by rw [D64_is]; decide) (by rw [D64_is]; decide)
  obtain ⟨b1, b2⟩ := bv_some hb
  have b3 : l2 y = b := b2
  rw [← b3] at hbb
  obtain ⟨c, hc, hcb, _⟩ := bd_mul (fint_bd e 8 he (by decide)).1 ln2_bd (c := D64 + 15) (by omega) (by rw [D64_is]; decide) (by rw [D64_is]; decide)
  obtain ⟨c1, c2⟩ := bv_some hc
  have c3 : l3 e = c := c2
  rw [← c3] at hcb
  obtain ⟨d, hd, hdb⟩ := bd_add hbb hcb (by rw [D64_is]; decide) (by rw [D64_is]; decide)
  obtain ⟨d1, d2⟩ := bv_some hd
  have d3 : lg y e = d := d2
  rw [← d3] at hdb
  obtain ⟨f, hf, hfb, _⟩ := bd_mul hdb dec_bd (c := D64 + 22) (by omega) (by rw [D64_is]; decide) (by rw [D64_is]; decide)
  obtain ⟨f1, f2⟩ := bv_some hf
  have f3 : t1 y e = f := f2
  rw [← f3] at hfb
  obtain ⟨g, hg, hgb⟩ := bd_add hfb (half_bd.mono (b := D64 + 22) (by omega)) (by rw [D64_is]; decide) (by rw [D64_is]; decide)
  obtain ⟨g1, g2⟩ := bv_some hg
  have g3 : t2 y e = g := g2
  rw [← g3] at hgb
  exact ⟨a1, b1, c1, d1, f1, g1, hgb⟩

/-! ## the start and the end -/
def wl (p : Nat) : Nat := (floatToFloatBits .f32 p .f64).getD 0
theorem pow_cast (d : Nat) : (2 : Int) ^ d = ((2 ^ d : Nat) : Int) := by simp
theorem big1 : 2 ^ 1202 < 6 * q64 * 2 ^ 128 := by decide +kernel
theorem big2 : 3 * q64 ≤ 2 ^ 925 * 2 ^ 149 := by decide +kernel
theorem big3 : 2 ^ 52 < 2 ^ 925 := by decide +kernel
theorem big4 : 2 ^ 277 * 2 ^ 925 = 2 ^ 1202 := by decide +kernel
theorem big5 : mv single 2139095039 ≤ 2 ^ 277 := by decide +kernel
theorem rnd_bd0 {num : Int} {r e : Nat} (h : Rnd double num 0 r) (h1 : 52 ≤ e) (h2 : e ≤ 2097) (hb : num.natAbs ≤ 2 ^ e) : Bd r e :=
  rnd_bd h h1 h2 (by rw [Nat.pow_zero, Nat.mul_one]; exact hb)
theorem two_le {a b c d : Nat} (h : a ≤ b) (e : b * c = d) : a * c ≤ d := e ▸ Nat.mul_le_mul_right _ h
theorem num_abs (v : Int) (d : Nat) : (v * 2 ^ d).natAbs = v.natAbs * 2 ^ d := by rw [pow_cast, Int.natAbs_mul, Int.natAbs_natCast]
theorem wl_ok {p : Nat} (hwf : (Lit.float .f32 p).wf = true) (hx : FinW single p) (hp : 0 < V single p) : floatToFloatBits .f32 p .f64 = some (wl p) ∧ Hw (wl p) 128 := by
  obtain ⟨r, hr, hrr⟩ := widen_rnd hx
  have e : wl p = r := by unfold wl; rw [hr]; rfl
  rw [e]
  refine ⟨hr, ?_⟩
  have hlt : r < 2 * double.signWeight := by
    have := floatToFloatBits_wf hwf hr
    rw [sw64]
    simpa [Lit.wf] using this
  have hge : (2 ^ 925 : Nat) ≤ V double r := by
    obtain ⟨v1, f1⟩ := V_pw false (e := 925) (by decide) (by decide)
    have h1 := hrr.ge _ f1
    rw [v1, Int.pow_zero, Int.mul_one] at h1
    have h2 : sg false (2 ^ 925) = ((2 ^ 925 : Nat) : Int) := rfl
    rw [h2] at h1
    have h3 := pow_cast 925
    rw [h3] at h1
    have hB := Nat.two_pow_pos 925
    generalize 2 ^ 925 = B at *
    refine h1 ?_
    have : 1 * (B : Int) ≤ V single p * (B : Int) := Int.mul_le_mul_of_nonneg_right (by omega) (by omega)
    omega
  have hb : Bd r 1202 := rnd_bd0 hrr (by decide) (by decide) (by
    rw [num_abs]
    refine two_le (Nat.le_trans ?_ big5) big4
    unfold V
    rw [sg_abs]
    refine mv_mono single ?_
    have := hx
    unfold FinW at this
    rw [inf32] at this
    omega)
  have hb2 := hb.2
  have b1 := big1
  have b2 := big2
  have b3 := big3
  have hn : Nrm r := by
    have hs : sgn double r = false := by
      cases hs : sgn double r
      · rfl
      · exfalso
        have : V double r ≤ 0 := by unfold V; rw [hs]; simp only [sg, if_true]; omega
        generalize 2 ^ 925 = B at *
        omega
    have hw := word_parts double hlt
    rw [hs] at hw
    have hw2 : rg double r = r := by
      have h9 : double.word false (rg double r) = rg double r := if_neg (by decide)
      exact h9.symm.trans hw
    refine ⟨?_, by have := hb.1; unfold FinW at this; rw [hw2] at this; exact this⟩
    rcases Nat.lt_or_ge r (2 ^ 52) with h1 | h1
    · exfalso
      have h2 : V double r = (r : Int) := by unfold V; rw [hs, hw2]; unfold mv; rw [if_pos (by rw [bi_pow]; exact h1)]; rfl
      generalize 2 ^ 925 = B at *
      omega
    · exact h1
  refine ⟨hn, ?_, ?_⟩
  · generalize 2 ^ 1202 = A at *
    omega
  · generalize 2 ^ 925 = B at *
    omega
/-- The floor, as a number and as an integer. -/
def flr (x : Nat) : Nat := FloatKind.f64.encode ((double.read x).integral .down)
def fli (x : Nat) : Int := ((double.read (flr x)).toInt .zero).getD 0

end Go.Proofs.Ytkjmlpdbnnmlhab.logNum

namespace Go.Proofs.Ytkjmlpdbnnmlhab.logWalk
open Go.ChangeShapes Go.WideShapes Go.ChangeAt Go.RowKit
open Go.ChangeMaps (open_string shut_string)
set_option linter.unusedVariables false
open Go Ieee
open Go.Proofs.Ytkjmlpdbnnmlhab.floats Go.Proofs.Ytkjmlpdbnnmlhab.round Go.Proofs.Ytkjmlpdbnnmlhab.values Go.Proofs.Ytkjmlpdbnnmlhab.conv Go.Proofs.Ytkjmlpdbnnmlhab.fWalk Go.Proofs.Ytkjmlpdbnnmlhab.finWalk Go.Proofs.Ytkjmlpdbnnmlhab.float2 Go.Proofs.Ytkjmlpdbnnmlhab.float3 Go.Proofs.Ytkjmlpdbnnmlhab.phase Go.Proofs.Ytkjmlpdbnnmlhab.sine Go.Proofs.Ytkjmlpdbnnmlhab.finBoth Go.Proofs.Ytkjmlpdbnnmlhab.logNum

theorem run_wl {p : Nat} (h : floatToFloatBits .f32 p .f64 = some (wl p)) (w : World) : (convert 61 39 (.float .f32 p)).run Try.prog w = .ok (.float .f64 (wl p)) w := by
  rw [run_convff (P := Try.prog) w 61 39 .f32 .f64 p (by rw [Try.underlying61]; rfl) Try.underlying39]
  have e1 : cval .f32 w p .f64 = wl p := by unfold cval; rw [h]
  have e2 : ccnt .f32 p .f64 = 0 := by unfold ccnt; rw [h]; rfl
  rw [e1, e2]; rfl
theorem cvi64 (w : World) (n : Int) : (convert 3 39 (.int .i64 n)).run Try.prog w = .ok (.float .f64 (floatOfInt .f64 n)) w :=
  run_convert_int_float w _ _ .i64 .f64 n (by rw [Try.underlying3]; rfl) Try.underlying39

/-! ## the floor -/
theorem cut_le (way : Toward) (neg : Bool) (n drop : Nat) : way.cut neg n drop ≤ n / 2 ^ drop + 1 := by
  unfold Toward.cut
  simp only [Nat.shiftLeft_eq, Nat.one_mul]
  have hb : ∀ b : Bool, b.toNat ≤ 1 := fun b => by cases b <;> simp
  by_cases h : drop ≤ n.log2 + 2
  · rw [Nat.min_eq_left h]
    exact Nat.add_le_add_left (hb _) _
  · have hn : n < 2 ^ (n.log2 + 1) := Nat.lt_log2_self
    rw [Nat.min_eq_right (by omega)]
    refine Nat.le_trans (Nat.add_le_add_left (hb _) _) ?_
    rw [Nat.div_eq_of_lt (Nat.lt_of_lt_of_le hn (Nat.pow_le_pow_right (by omega) (show n.log2 + 1 ≤ n.log2 + 2 by omega)))]
    exact Nat.add_le_add_right (Nat.zero_le _) 1
theorem sg_inj {s : Bool} {a b : Nat} (h : sg s a = sg s b) : a = b := by
  unfold sg at h; split at h <;> omega
theorem flr_ok {x : Nat} (h : Bd x (D64 + 23)) : FinW double (flr x) ∧ (V double (flr x)).natAbs ≤ (2 ^ 23 + 1) * (4 * q64) := by
  obtain ⟨m, e, ex, vx⟩ := read_fin double h.1
  obtain ⟨q, hq, hq1, _⟩ := toInt_fin h.1
  have hV : (V double x).natAbs = mv double (rg double x) := by unfold V; exact sg_abs _ _
  have hle : q * (4 * q64) ≤ 2 ^ 23 * (4 * q64) := by
    refine Nat.le_trans hq1 ?_
    rw [← hV, four_q, ← Nat.pow_add, Nat.add_comm 23]
    exact h.2
  have hq47 : q ≤ 2 ^ 23 := Nat.le_of_mul_le_mul_right hle (by have := q64_pos; omega)
  unfold Datum.toInt Datum.integral at hq
  rw [ex] at hq
  simp only [cut_zero] at hq
  rw [signed_sg, Nat.pow_zero, Nat.mul_one] at hq
  have hqe := sg_inj (Option.some.inj hq)
  unfold flr
  have e1 : (double.read x).integral .down = .number (sgn double x) (Toward.down.cut (sgn double x) (m <<< (double.leastPlace + e : Int).toNat) (-(double.leastPlace + e : Int)).toNat) 0 := by
    rw [ex]; rfl
  rw [e1]
  have hc := cut_le .down (sgn double x) (m <<< (double.leastPlace + e : Int).toNat) (-(double.leastPlace + e : Int)).toNat
  rw [hqe] at hc
  generalize Toward.down.cut (sgn double x) (m <<< (double.leastPlace + e : Int).toNat) (-(double.leastPlace + e : Int)).toNat = K at hc
  obtain ⟨f1, f2⟩ := float_int (sgn double x) K (by omega)
  refine ⟨f1, ?_⟩
  show (V double (double.nearest (sgn double x) K 0)).natAbs ≤ _
  rw [f2, sg_abs]
  exact Nat.mul_le_mul_right _ (by omega)
theorem fli_ok {x : Nat} (h : Bd x (D64 + 23)) : -9000000 ≤ fli x ∧ fli x ≤ 9000000 ∧ ∀ w : World, (convert 39 2 (.float .f64 (flr x))).run Try.prog w = .ok (.int .i64 (fli x)) w := by
  obtain ⟨f1, f2⟩ := flr_ok h
  obtain ⟨q, hq, hq1, _⟩ := toInt_fin f1
  have hV : (V double (flr x)).natAbs = mv double (rg double (flr x)) := by unfold V; exact sg_abs _ _
  have hle : q ≤ 2 ^ 23 + 1 := Nat.le_of_mul_le_mul_right (Nat.le_trans hq1 (by rw [← hV]; exact f2)) (by have := q64_pos; omega)
  have e : fli x = sg (sgn double (flr x)) q := by unfold fli; rw [hq]; rfl
  rw [e]
  refine ⟨by unfold sg; split <;> omega, by unfold sg; split <;> omega, fun w => conv_ok hq ?_ ?_ w⟩
  · unfold sg; split <;> omega
  · unfold sg; split <;> omega
theorem ti_ok {x : Nat} {s : Bool} {m : Nat} {p : Int} (nm : String) (way : Toward) (h : FloatKind.f64.decode x = .number s m p) :
    Extern.MathFloor.toIntegral nm way #[.float .f64 x] = pure (.float .f64 (FloatKind.f64.encode ((Datum.number s m p).integral way))) := by
  refine Eq.trans (b := Extern.MathFloor.toIntegral.match_1 (fun _ => Sem Value) (FloatKind.f64.decode x) _ _) rfl ?_
  rw [h]
theorem c_arch : True := trivial
theorem floor_call : True := trivial

def e1 (p : Nat) : Nat × Nat := hrun 129 0 (wl p)
def e2 (p : Nat) : Nat × Nat := drun 150 0 (e1 p).2
def tnI (p : Nat) : Int := fli (t2 (e2 p).2 (((e1 p).1 : Int) - ((e2 p).1 : Int)))

end Go.Proofs.Ytkjmlpdbnnmlhab.logWalk

namespace Go.Proofs.Ytkjmlpdbnnmlhab.tenths
open Go.ChangeShapes Go.WideShapes Go.ChangeAt Go.RowKit
open Go.ChangeMaps (open_string shut_string)
set_option linter.unusedVariables false
open Go Ieee
open Go.Proofs.Ytkjmlpdbnnmlhab.floats Go.Proofs.Ytkjmlpdbnnmlhab.round Go.Proofs.Ytkjmlpdbnnmlhab.values Go.Proofs.Ytkjmlpdbnnmlhab.conv Go.Proofs.Ytkjmlpdbnnmlhab.fWalk Go.Proofs.Ytkjmlpdbnnmlhab.finWalk Go.Proofs.Ytkjmlpdbnnmlhab.float2 Go.Proofs.Ytkjmlpdbnnmlhab.float3 Go.Proofs.Ytkjmlpdbnnmlhab.phase Go.Proofs.Ytkjmlpdbnnmlhab.sine Go.Proofs.Ytkjmlpdbnnmlhab.finBoth Go.Proofs.Ytkjmlpdbnnmlhab.logNum Go.Proofs.Ytkjmlpdbnnmlhab.logWalk

attribute [local go_sem] cvi64
theorem ge15 {y : Nat} (h : FinW double y) (h2 : 6 * (q64 : Int) ≤ V double y) : FloatKind.f64.format.order y 4609434218613702656 = some .gt ∨ FloatKind.f64.format.order y 4609434218613702656 = some .eq := by
  rcases Int.lt_or_eq_of_le h2 with hq | hq
  · exact .inl (gt_is h F15 (by rw [V15]; exact hq))
  · exact .inr (eq_is h F15 (by rw [V15]; exact hq.symm))

set_option maxHeartbeats 2000000 in
set_option maxRecDepth 100000 in
theorem tn_impl : True := trivial

/-- The logarithm, and what it is at the end of the loops. -/
def lgp (p : Nat) : Nat := lg (e2 p).2 (((e1 p).1 : Int) - ((e2 p).1 : Int))

end Go.Proofs.Ytkjmlpdbnnmlhab.tenths

namespace Go.Proofs.Ytkjmlpdbnnmlhab.tenths2
open Go.ChangeShapes Go.WideShapes Go.ChangeAt Go.RowKit
open Go.ChangeMaps (open_string shut_string)
set_option linter.unusedVariables false
open Go Ieee
open Go.Proofs.Ytkjmlpdbnnmlhab.floats Go.Proofs.Ytkjmlpdbnnmlhab.round Go.Proofs.Ytkjmlpdbnnmlhab.values Go.Proofs.Ytkjmlpdbnnmlhab.conv Go.Proofs.Ytkjmlpdbnnmlhab.fWalk Go.Proofs.Ytkjmlpdbnnmlhab.finWalk Go.Proofs.Ytkjmlpdbnnmlhab.float2 Go.Proofs.Ytkjmlpdbnnmlhab.float3 Go.Proofs.Ytkjmlpdbnnmlhab.phase Go.Proofs.Ytkjmlpdbnnmlhab.sine Go.Proofs.Ytkjmlpdbnnmlhab.finBoth Go.Proofs.Ytkjmlpdbnnmlhab.logNum Go.Proofs.Ytkjmlpdbnnmlhab.logWalk Go.Proofs.Ytkjmlpdbnnmlhab.tenths

attribute [local go_sem] cvi64
def t1p (p : Nat) : Nat := t1 (e2 p).2 (((e1 p).1 : Int) - ((e2 p).1 : Int))
def t2p (p : Nat) : Nat := t2 (e2 p).2 (((e1 p).1 : Int) - ((e2 p).1 : Int))
theorem le_max {y : Nat} (h : Nrm y) : (FloatKind.f64.format.order y 9218868437227405311 == some .gt) = false := by
  have h2 := cmp_max h.fin.1
  have h3 := h.hi
  rw [inf64] at h3
  rwa [Nat.mod_eq_of_lt (by omega)] at h2
theorem isinf1 (y : Nat) (w : World) (h : Nrm y) : Calls Try.prog 306 #[.float .f64 y, .int .i64 1] w fun e w' => e = .returned (.bool false) ∧ w = w' := by
  have hm := le_max h
  clear h
  go_enter Try.func306, Try.ntmps306
  go_wp2
  go_ret
  exact ⟨by rw [← hm]; rfl, rfl⟩

set_option maxHeartbeats 2000000 in
set_option maxRecDepth 100000 in
theorem lg_spec : True := trivial

end Go.Proofs.Ytkjmlpdbnnmlhab.tenths2

namespace Go.Proofs.Ytkjmlpdbnnmlhab.tenths3
open Go.ChangeShapes Go.WideShapes Go.ChangeAt Go.RowKit
open Go.ChangeMaps (open_string shut_string)
set_option linter.unusedVariables false
open Go Ieee
open Go.Proofs.Ytkjmlpdbnnmlhab.floats Go.Proofs.Ytkjmlpdbnnmlhab.round Go.Proofs.Ytkjmlpdbnnmlhab.values Go.Proofs.Ytkjmlpdbnnmlhab.conv Go.Proofs.Ytkjmlpdbnnmlhab.fWalk Go.Proofs.Ytkjmlpdbnnmlhab.finWalk Go.Proofs.Ytkjmlpdbnnmlhab.float2 Go.Proofs.Ytkjmlpdbnnmlhab.float3 Go.Proofs.Ytkjmlpdbnnmlhab.phase Go.Proofs.Ytkjmlpdbnnmlhab.sine Go.Proofs.Ytkjmlpdbnnmlhab.finBoth Go.Proofs.Ytkjmlpdbnnmlhab.logNum Go.Proofs.Ytkjmlpdbnnmlhab.logWalk Go.Proofs.Ytkjmlpdbnnmlhab.tenths Go.Proofs.Ytkjmlpdbnnmlhab.tenths2

theorem tnI_is (p : Nat) : tnI p = fli (t2p p) := rfl
theorem tn_l01 : True := trivial

/-- The answers. -/
def tnOk (p : Nat) : Bool := decide (rg single p < single.infRung) && decide (0 < V single p)
def tnA (p : Nat) : Int × Bool := if tnOk p = true then (tnI p, true) else (0, false)
theorem F0s : FinW single 0 := by unfold FinW; decide +kernel
theorem V0s : V single 0 = 0 := by decide +kernel
theorem ord0 {p : Nat} (hx : FinW single p) : FloatKind.f32.format.order p 0 = some (compare (V single p) 0) := by
  rw [fmt32, order_fin single hx F0s, V0s]
theorem sub_b {p : Nat} (b : Bool) (hb : b = true ↔ FinW single p) (w : World) : (FloatKind.f32.format.order (fval .sub .f32 w p p) 0 == some .eq) = b := by
  cases b
  · exact sub_not (by rw [← hb]; simp) w
  · exact sub_zero (by rw [← hb]) w

set_option maxHeartbeats 800000 in
theorem tn_s : True := trivial

set_option maxHeartbeats 800000 in
theorem tn_i : True := trivial

end Go.Proofs.Ytkjmlpdbnnmlhab.tenths3

namespace Go.Proofs.Ytkjmlpdbnnmlhab.tenthsBd
open Go.ChangeShapes Go.WideShapes Go.ChangeAt Go.RowKit
open Go.ChangeMaps (open_string shut_string)
set_option linter.unusedVariables false
open Go Ieee
open Go.Proofs.Ytkjmlpdbnnmlhab.floats Go.Proofs.Ytkjmlpdbnnmlhab.round Go.Proofs.Ytkjmlpdbnnmlhab.values Go.Proofs.Ytkjmlpdbnnmlhab.conv Go.Proofs.Ytkjmlpdbnnmlhab.fWalk Go.Proofs.Ytkjmlpdbnnmlhab.finWalk Go.Proofs.Ytkjmlpdbnnmlhab.float2 Go.Proofs.Ytkjmlpdbnnmlhab.float3 Go.Proofs.Ytkjmlpdbnnmlhab.phase Go.Proofs.Ytkjmlpdbnnmlhab.sine Go.Proofs.Ytkjmlpdbnnmlhab.finBoth Go.Proofs.Ytkjmlpdbnnmlhab.logNum Go.Proofs.Ytkjmlpdbnnmlhab.logWalk Go.Proofs.Ytkjmlpdbnnmlhab.tenths Go.Proofs.Ytkjmlpdbnnmlhab.tenths2 Go.Proofs.Ytkjmlpdbnnmlhab.tenths3

theorem hrun_inv : ∀ k i y, Hw y k → ∃ i' y', hrun (k + 1) i y = (i', y') ∧ i' ≤ i + k ∧ Dw y' 149
  | 0, i, y, h => by
    have h1 := h_end h
    refine ⟨i, y, ?_, by omega, h.nrm, h1, h.lo⟩
    unfold hrun
    rw [if_neg (by omega)]
  | k + 1, i, y, h => by
    by_cases hge : 6 * (q64 : Int) ≤ V double y
    · obtain ⟨_, a2⟩ := h_step h hge
      obtain ⟨i', y', e, hi, hd⟩ := hrun_inv k (i + 1) (hf y) a2
      refine ⟨i', y', ?_, by omega, hd⟩
      rw [← e]
      show (if 6 * (q64 : Int) ≤ V double y then hrun (k + 1) (i + 1) (hf y) else (i, y)) = _
      rw [if_pos hge]
    · refine ⟨i, y, ?_, by omega, h.nrm, by omega, h.lo⟩
      show (if 6 * (q64 : Int) ≤ V double y then hrun (k + 1) (i + 1) (hf y) else (i, y)) = _
      rw [if_neg hge]
theorem drun_inv : ∀ k i y, Dw y k → ∃ i' y', drun (k + 1) i y = (i', y') ∧ i' ≤ i + k ∧ Nrm y' ∧ V double y' < 6 * (q64 : Int) ∧ 3 * (q64 : Int) ≤ V double y'
  | 0, i, y, h => by
    have h1 := d_end h
    refine ⟨i, y, ?_, by omega, h.nrm, h.up, h1⟩
    unfold drun
    rw [if_neg (by omega)]
  | k + 1, i, y, h => by
    by_cases hge : V double y < 3 * (q64 : Int)
    · obtain ⟨_, a2⟩ := d_step h hge
      obtain ⟨i', y', e, hi, hd⟩ := drun_inv k (i + 1) (df y) a2
      refine ⟨i', y', ?_, by omega, hd⟩
      rw [← e]
      show (if V double y < 3 * (q64 : Int) then drun (k + 1) (i + 1) (df y) else (i, y)) = _
      rw [if_pos hge]
    · refine ⟨i, y, ?_, by omega, h.nrm, h.up, by omega⟩
      show (if V double y < 3 * (q64 : Int) then drun (k + 1) (i + 1) (df y) else (i, y)) = _
      rw [if_neg hge]
theorem tn_bd {p : Nat} (hwf : (Lit.float .f32 p).wf = true) (h : tnOk p = true) : -9000000 ≤ tnI p ∧ tnI p ≤ 9000000 := by
  unfold tnOk at h
  rw [Bool.and_eq_true, decide_eq_true_eq, decide_eq_true_eq] at h
  obtain ⟨_, hw2⟩ := wl_ok hwf h.1 h.2
  obtain ⟨i, y, hE, hi, hd⟩ := hrun_inv 128 0 (wl p) hw2
  obtain ⟨j, z, hE2, hj, n1, n2, n3⟩ := drun_inv 149 0 y hd
  have hres : tnI p = fli (t2 z ((i : Int) - (j : Int))) := by
    unfold tnI e2 e1
    rw [hE]; dsimp only; rw [hE2]
  obtain ⟨_, _, _, y4, _, y6⟩ := y_ok n1 n3 n2
  obtain ⟨_, _, _, _, _, _, l7⟩ := l_ok (e := (i : Int) - (j : Int)) y4 y6 (by omega)
  rw [hres]
  exact ⟨(fli_ok l7).1, (fli_ok l7).2.1⟩

theorem pos_call : True := trivial
theorem l01_ok : True := trivial
theorem max_call : True := trivial
/-- A level. -/
def lv (t p : Int) : Int := if p - t < -2000 then -2000 else p - t
def lvl (x : Nat → Nat) (t : Int) (k : Nat) : Int := if tnOk (x k) = true then lv t (tnI (x k)) else -2000
def lvs (x : Nat → Nat) (t : Int) (k : Nat) : List Int := (List.range k).map (lvl x t)
theorem lvs_len (x : Nat → Nat) (t : Int) (k : Nat) : (lvs x t k).length = k := by simp [lvs]
theorem lvs_succ (x : Nat → Nat) (t : Int) (k : Nat) : lvs x t (k + 1) = lvs x t k ++ [lvl x t k] := by simp [lvs, List.range_succ]

end Go.Proofs.Ytkjmlpdbnnmlhab.tenthsBd
