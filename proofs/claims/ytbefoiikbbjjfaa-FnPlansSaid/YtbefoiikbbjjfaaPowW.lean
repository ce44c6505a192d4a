/- Powers and lengths of complex numbers, by the program. -/
import Derived.Test.YtbefoiikbbjjfaaRows
import Derived.Test.YtbefoiikbbjjfaaSlc
import Derived.Test.YtbefoiikbbjjfaaSmall
import Derived.Test.YtbefoiikbbjjfaaOpens
import Derived.Test.YtbefoiikbbjjfaaFloatAll
import Derived.Test.YtbefoiikbbjjfaaFWalk
import Derived.Test.YtbefoiikbbjjfaaFinWalk
import Derived.Test.YtbefoiikbbjjfaaRoot
import Derived.Test.YtbefoiikbbjjfaaFlAll
import Derived.Test.YtbefoiikbbjjfaaPhasor
import Derived.Test.YtbefoiikbbjjfaaListC
import Derived.Test.YtbefoiikbbjjfaaSteerNum
import Derived.Test.YtbefoiikbbjjfaaSineIn
import Derived.Test.YtbefoiikbbjjfaaPolyAll
import Derived.Test.YtbefoiikbbjjfaaGAll
import Derived.WalkKit
import Derived.ProofKit
import Derived.OpenShut
import Derived.ShutString
import Derived.ChangeOld
import Derived.Below
import Derived.Lib.Hide
import Derived.BigQuiet
import Derived.Deep.QuietTactic
import Derived.WalkLawsBesides
import Derived.Outline
import Derived.Laws.ComplexArith
namespace Go.Proofs.Ytbefoiikbbjjfaa.powW
open Go.ChangeShapes Go.WideShapes Go.ChangeAt Go.RowKit
open Go.ChangeMaps (open_string shut_string)
set_option linter.unusedVariables false
open Go Ieee Go.RowKit
open Go.Proofs.Ytbefoiikbbjjfaa.floats Go.Proofs.Ytbefoiikbbjjfaa.round Go.Proofs.Ytbefoiikbbjjfaa.values Go.Proofs.Ytbefoiikbbjjfaa.conv Go.Proofs.Ytbefoiikbbjjfaa.fWalk Go.Proofs.Ytbefoiikbbjjfaa.root Go.Proofs.Ytbefoiikbbjjfaa.float2 Go.Proofs.Ytbefoiikbbjjfaa.float3 Go.Proofs.Ytbefoiikbbjjfaa.phase Go.Proofs.Ytbefoiikbbjjfaa.sine Go.Proofs.Ytbefoiikbbjjfaa.phasor Go.Proofs.Ytbefoiikbbjjfaa.listC Go.Proofs.Ytbefoiikbbjjfaa.steerNum Go.Proofs.Ytbefoiikbbjjfaa.sineIn Go.Proofs.Ytbefoiikbbjjfaa.polyNum Go.Proofs.Ytbefoiikbbjjfaa.polyW Go.Proofs.Ytbefoiikbbjjfaa.rq

/-! ## roots -/
theorem root_gen {m : Nat} {i' X C : Nat} (hm : m ≠ 0) (hm53 : m < 2 ^ 53) (hb : m * 2 ^ i' ≤ X) (hC : 9 * (X * 2 ^ 1072) ≤ C * C) :
    ∃ (mag p : Nat), (Datum.number false m (-1074 + i')).root 54 = some (.number false mag (-1074 + p)) ∧ mag * 2 ^ p ≤ C := by
  unfold Datum.root
  dsimp only
  rw [if_neg hm]
  simp only [Bool.false_eq_true, if_false]
  have hl : m.log2 < 53 := (Nat.log2_lt hm).2 hm53
  generalize hM : 2 * 54 - m.log2 + ((-1074 + (i' : Int) - (2 * 54 - m.log2 : Nat)) % 2).toNat = more
  have hmore : more ≤ 109 := by omega
  obtain ⟨h, hh⟩ : ∃ h : Int, -1074 + (i' : Int) - more = 2 * h := by
    refine ⟨(-1074 + (i' : Int) - more) / 2, ?_⟩
    omega
  have hplace : (-1074 + (i' : Int) - more) / 2 - 1 = h - 1 := by omega
  obtain ⟨p, hp⟩ : ∃ p : Nat, h - 1 = -1074 + (p : Int) := ⟨(h + 1073).toNat, by omega⟩
  have hexp : more + 2 * p = i' + 1072 := by omega
  rw [hplace, hp, Nat.shiftLeft_eq]
  refine ⟨_, p, rfl, ?_⟩
  have hn : 1 ≤ m * 2 ^ more := Nat.le_trans (by omega) (Nat.le_mul_of_pos_right m (Nat.two_pow_pos more))
  have hw := root_sq (m * 2 ^ more) ((m * 2 ^ more).log2 / 2 + 1) 0 (by simp)
  have hq := mag_sq hw hn (Datum.rootFrom (m * 2 ^ more) ((m * 2 ^ more).log2 / 2 + 1) 0 * Datum.rootFrom (m * 2 ^ more) ((m * 2 ^ more).log2 / 2 + 1) 0 != m * 2 ^ more)
  generalize 2 * Datum.rootFrom (m * 2 ^ more) ((m * 2 ^ more).log2 / 2 + 1) 0 + (Datum.rootFrom (m * 2 ^ more) ((m * 2 ^ more).log2 / 2 + 1) 0 * Datum.rootFrom (m * 2 ^ more) ((m * 2 ^ more).log2 / 2 + 1) 0 != m * 2 ^ more).toNat = mag at hq ⊢
  refine sq_le ?_
  calc mag * 2 ^ p * (mag * 2 ^ p) = mag * mag * (2 ^ p * 2 ^ p) := Nat.mul_mul_mul_comm _ _ _ _
    _ ≤ 9 * (m * 2 ^ more) * (2 ^ p * 2 ^ p) := Nat.mul_le_mul_right _ hq
    _ = 9 * (m * (2 ^ more * (2 ^ p * 2 ^ p))) := by rw [Nat.mul_assoc, Nat.mul_assoc]
    _ = 9 * (m * 2 ^ (i' + 1072)) := by rw [← Nat.pow_add, ← Nat.pow_add, show more + (p + p) = i' + 1072 from by omega]
    _ = 9 * (m * 2 ^ i' * 2 ^ 1072) := by rw [Nat.pow_add, Nat.mul_assoc]
    _ ≤ 9 * (X * 2 ^ 1072) := Nat.mul_le_mul_left _ (Nat.mul_le_mul_right _ hb)
    _ ≤ C * C := hC


theorem ten_ok : FinW double 4562146422526312448 ∧ V double 4562146422526312448 = 2 ^ (D64 - 10) := ⟨by unfold values.FinW; decide +kernel, by decide +kernel⟩
theorem ten_hi : mv double 4562146422526312448 = 2 ^ (D64 - 10) := by decide +kernel
theorem ten_sq : 9 * (2 ^ (D64 - 22) * 2 ^ 1072) ≤ 2 ^ (D64 - 10) * 2 ^ (D64 - 10) := by decide +kernel
theorem root_le {x : Nat} (h : FinW double x) (h0 : 0 ≤ V double x) (hb : (V double x).natAbs ≤ 2 ^ (D64 - 22)) : ∃ r, double.sqrt x = some r ∧ FinW double r ∧ 0 ≤ V double r ∧ V double r ≤ 2 ^ (D64 - 10) := by
  obtain ⟨m, e, ex, vx⟩ := read_fin double h
  have hV : V double x = sg (sgn double x) (mv double (rg double x)) := rfl
  rw [V_read vx, sg_abs] at hb
  have hm53 := fin_mag h ex
  by_cases hm : m = 0
  · subst hm
    have e1 : double.sqrt x = some (double.word (sgn double x) 0) := by
      unfold Format.sqrt; rw [ex]; simp only [Datum.root, if_true, Option.map_some]
      show some (double.nearest _ _ _) = _; rw [nearest_zero]
    refine ⟨_, e1, ?_⟩
    have hp := Nat.two_pow_pos (D64 - 10)
    have hz : V double (double.word (sgn double x) 0) = 0 := by cases sgn double x <;> decide +kernel
    have hf : FinW double (double.word (sgn double x) 0) := by unfold values.FinW; cases sgn double x <;> decide +kernel
    refine ⟨hf, by rw [hz]; omega, ?_⟩
    rw [hz, gNum.pc]
    omega
  · have hs : sgn double x = false := by
      cases hs : sgn double x with
      | false => rfl
      | true =>
        exfalso
        rw [hV, hs, ← vx] at h0
        have := Nat.mul_pos (Nat.pos_of_ne_zero hm) (Nat.two_pow_pos e)
        simp only [sg, if_true] at h0
        omega
    rw [lp64, hs] at ex
    obtain ⟨mag, p, er, hmag⟩ := root_gen hm hm53 hb ten_sq
    have e1 : double.sqrt x = some (double.nearest false mag (-1074 + p)) := by
      unfold Format.sqrt; rw [ex, show double.fractionBits + 2 = 54 from rfl, er]; rfl
    refine ⟨_, e1, ?_⟩
    have hh := (nearest_rnd double false mag (-1074 + p) (p := p) (d := 0) (by rw [lp64]; omega) (hi := 4562146422526312448) (by rw [inf64]; decide) (by rw [ten_hi, Nat.pow_zero, Nat.mul_one]; exact hmag)).1
    have hmag' : (((mag * 2 ^ p : Nat)) : Int) ≤ 2 ^ (D64 - 10) := by rw [gNum.pc]; exact Int.ofNat_le.2 hmag
    have l1 := hh.le _ ten_ok.1 (by rw [ten_ok.2, sg_false, Int.pow_zero, Int.mul_one]; exact hmag')
    have l0 := hh.ge _ F_zero (by rw [V_zero, sg_false, Int.pow_zero, Int.mul_one]; exact Int.natCast_nonneg _)
    rw [ten_ok.2] at l1
    rw [V_zero] at l0
    exact ⟨hh.fin, l0, l1⟩

/-! ## powers and lengths -/
theorem sq_nn {x a : Nat} (hx : Bd x (D64 + a)) (he : a + a ≤ 200) : 0 ≤ V double (bv .mul x x) := by
  have hD := D64_is
  obtain ⟨r, hr, hrr, _⟩ := mul_rnd double (D := D64) lpD hx.1 hx.1 (hi := pw (D64 + (a + a))) (pw_inf (by omega)) (by rw [mv_pw (by omega), ← Nat.pow_add, show D64 + (a + a) + D64 = D64 + a + (D64 + a) by omega]; exact rq.abs_mul hx.2 hx.2)
  rw [(bv_some (show floatBits .mul .f64 x x = some r from hr)).2]
  have := hrr.ge 0 F_zero (by
    rw [V_zero, Int.zero_mul]
    have e : V double x * V double x = (((V double x).natAbs * (V double x).natAbs : Nat) : Int) := by simp
    omega)
  rwa [V_zero] at this
theorem sum_nn {x y a : Nat} (hx : Bd x (D64 + a)) (hy : Bd y (D64 + a)) (he : a ≤ 199) (h1 : 0 ≤ V double x) (h2 : 0 ≤ V double y) : 0 ≤ V double (bv .add x y) := by
  have hD := D64_is
  obtain ⟨r, hr, hrr⟩ := add_rnd double hx.1 hy.1 (hi := pw (D64 + a + 1)) (pw_inf (by omega)) (by rw [mv_pw (by omega)]; exact rq.abs_add hx.2 hy.2)
  rw [(bv_some (show floatBits .add .f64 x y = some r from hr)).2]
  have := hrr.ge 0 F_zero (by rw [V_zero, Int.zero_mul]; omega)
  rwa [V_zero] at this
/-- The power, in 64 bits. -/
def pwW (x : Nat × Nat) : Nat := bv .add (bv .mul (wd x.1) (wd x.1)) (bv .mul (wd x.2) (wd x.2))
structure PowOk (x : Nat × Nat) : Prop where
  a1 : floatToFloatBits .f32 x.1 .f64 = some (wd x.1)
  a2 : floatToFloatBits .f32 x.2 .f64 = some (wd x.2)
  p1 : floatBits .mul .f64 (wd x.1) (wd x.1) = some (bv .mul (wd x.1) (wd x.1))
  p2 : floatBits .mul .f64 (wd x.2) (wd x.2) = some (bv .mul (wd x.2) (wd x.2))
  s : floatBits .add .f64 (bv .mul (wd x.1) (wd x.1)) (bv .mul (wd x.2) (wd x.2)) = some (pwW x)
theorem pow_ok {x : Nat × Nat} {a : Nat} (hx : Cb x a) (h : a + a ≤ 80) : PowOk x ∧ Bd (pwW x) (D64 + (a + a + 1)) ∧ 0 ≤ V double (pwW x) ∧ nr (r64 (pwW x)) (r32 x.1 * r32 x.1 + r32 x.2 * r32 x.2) (two (a + a) / two 47) := by
  obtain ⟨e1, x1⟩ := wd_in hx.1 (by omega)
  obtain ⟨e2, x2⟩ := wd_in hx.2 (by omega)
  have vx1 := (wd_r hx.1.1).2
  have vx2 := (wd_r hx.2.1).2
  obtain ⟨f1, p1, q1⟩ := mul64 x1 x1 (by omega)
  obtain ⟨f2, p2, q2⟩ := mul64 x2 x2 (by omega)
  rw [vx1] at q1
  rw [vx2] at q2
  obtain ⟨f3, s1, t1⟩ := add64 p1 p2 (by omega)
  refine ⟨⟨e1, e2, f1, f2, f3⟩, s1, sum_nn p1 p2 (by omega) (sq_nn x1 (by omega)) (sq_nn x2 (by omega)), ?_⟩
  have z1 := nr_trans t1 (nr_add q1 q2)
  have hT : two (a + a + 1) = two (a + a) * 2 := by rw [two_add]; rfl
  have hp := two_pos (a + a)
  rw [hT, two_num 50 1125899906842624 rfl] at z1
  rw [two_num 47 140737488355328 rfl]
  exact nr_mono z1 (by grind)
theorem power_c {x : Nat × Nat} (h : PowOk x) (w : World) :
    Calls Try.prog 123 #[.complex .f64 (wd x.1) (wd x.2)] w fun e w' => e = .returned (.float .f64 (pwW x)) ∧ w = w' := by
  have r1 := fun w : World => run_ok (P := Try.prog) h.p1 rfl (w := w) (t := 62)
  have r2 := fun w : World => run_ok (P := Try.prog) h.p2 rfl (w := w) (t := 62)
  have r3 := fun w : World => run_ok (P := Try.prog) h.s rfl (w := w) (t := 62)
  clear h
  generalize pwW x = P at *
  generalize bv .mul (wd x.1) (wd x.1) = Q at *
  generalize bv .mul (wd x.2) (wd x.2) = R at *
  go_enter Try.func123, Try.ntmps123
  go_wp2
  go_ret
  exact ⟨rfl, rfl⟩
theorem powerOf_c {x : Nat × Nat} {a : Nat} (hx : Cb x a) (h : a + a ≤ 80) (w : World) :
    Calls Try.prog 187 #[.complex .f32 x.1 x.2] w fun e w' => e = .returned (.float .f32 (nw (pwW x))) ∧ w = w' := by
  obtain ⟨hp, hb, _, _⟩ := pow_ok hx h
  obtain ⟨e1, _⟩ := nw_is hb (by omega)
  have hn := cvn e1
  clear e1 hb
  go_enter Try.func187, Try.ntmps187
  go_wp2_with fail
  refine (widen_c hp.a1 hp.a2 _).mono ?_
  rintro e w' ⟨rfl, rfl⟩
  go_wp2_with fail
  refine (power_c hp _).mono ?_
  rintro e w' ⟨rfl, rfl⟩
  go_wp2_with fail
  go_ret
  exact ⟨rfl, rfl⟩
theorem c_sqrt {x r : Nat} (h : double.sqrt x = some r) (w : World) : (callFunc 182 #[.float .f64 x]).run Try.prog w = .ok (.value (.float .f64 r)) w := by
  rw [run_callFunc_extern (fn := Try.f182) (e := Extern.MathSqrt.sqrt) Try.func182 (by kernel_rfl) (by kernel_rfl) (by kernel_rfl) (by kernel_rfl), run_sqrt]
  have e1 : sqval w x = r := by unfold sqval; rw [h]
  have e2 : sqcnt x = 0 := by unfold sqcnt; rw [h]; rfl
  rw [e1, e2]
  rfl
theorem sqrt_c {x r : Nat} (h : double.sqrt x = some r) (w : World) :
    Calls Try.prog 121 #[.float .f64 x] w fun e w' => e = .returned (.float .f64 r) ∧ w = w' := by
  have hs := c_sqrt h
  clear h
  go_enter Try.func121, Try.ntmps121
  go_wp2
  go_ret
  exact ⟨rfl, rfl⟩
theorem r64_le {x : Nat} {k : Nat} (hk : k ≤ 100) (h0 : 0 ≤ V double x) (h : r64 x ≤ 1 / two k) : (V double x).natAbs ≤ 2 ^ (D64 - k) := by
  have hD := D64_is
  have e : two D64 = two k * two (D64 - k) := by rw [← two_add, show k + (D64 - k) = D64 by omega]
  have hp := two_pos k
  have hq := two_pos (D64 - k)
  unfold r64 at h
  rw [e] at h
  have h2 : (V double x : Rat) ≤ two (D64 - k) := by
    have h3 := Rat.mul_le_mul_of_nonneg_right h (Rat.le_of_lt (Rat.mul_pos hp hq))
    have e1 : (V double x : Rat) / (two k * two (D64 - k)) * (two k * two (D64 - k)) = V double x := by grind
    have e2 : 1 / two k * (two k * two (D64 - k)) = two (D64 - k) := by grind
    rwa [e1, e2] at h3
  have h4 : V double x ≤ ((2 ^ (D64 - k) : Nat) : Int) := by
    unfold two at h2
    exact_mod_cast h2
  omega
theorem r64_mono {x y : Nat} (h : r64 x ≤ r64 y) : V double x ≤ V double y := by
  have hp := two_pos D64
  unfold r64 at h
  have h3 := Rat.mul_le_mul_of_nonneg_right h (Rat.le_of_lt hp)
  have e1 : (V double x : Rat) / two D64 * two D64 = V double x := by grind
  have e2 : (V double y : Rat) / two D64 * two D64 = V double y := by grind
  rw [e1, e2] at h3
  exact_mod_cast h3
theorem of_int_le {a b : Int} {k : Nat} (h : a ≤ b) : (a : Rat) / two k ≤ (b : Rat) / two k := by
  have hi := Rat.le_of_lt (Rat.inv_pos.2 (two_pos k))
  rw [Rat.div_def, Rat.div_def]
  exact Rat.mul_le_mul_of_nonneg_right (by exact_mod_cast h) hi
/-- The length of a small number. -/
def lgW (x : Nat × Nat) : Nat := nw ((double.sqrt (pwW x)).getD 0)
theorem long_num {x : Nat × Nat} (hx : Cb x 4) (h1 : nr (r32 x.1) 0 (1 / 4096)) (h2 : nr (r32 x.2) 0 (1 / 4096)) :
    PowOk x ∧ ∃ r, double.sqrt (pwW x) = some r ∧ floatToFloatBits .f64 r .f32 = some (lgW x) ∧ Bs (lgW x) 0 ∧ r32 (lgW x) ≤ 1 / 1024 + 1 / 4194304 := by
  obtain ⟨hp, hb, h0, hn⟩ := pow_ok hx (by omega)
  have hs1 : r32 x.1 * r32 x.1 ≤ 1 / 4096 * (1 / 4096) := nr_sq h1
  have hs2 : r32 x.2 * r32 x.2 ≤ 1 / 4096 * (1 / 4096) := nr_sq h2
  have hle : r64 (pwW x) ≤ 1 / two 22 := by
    rw [two_num 22 4194304 rfl]
    rw [show two (4 + 4) = 256 from rfl, two_num 47 140737488355328 rfl] at hn
    unfold nr at hn
    grind
  obtain ⟨r, r1, r2, r3, r4⟩ := root_le hb.1 h0 (r64_le (by omega) h0 hle)
  have hbd : Bd r (D64 + 0) := ⟨r2, by
    have hD := D64_is
    have hq : 2 ^ (D64 - 10) ≤ 2 ^ (D64 + 0) := Nat.pow_le_pow_right (by omega) (by omega)
    rw [gNum.pc] at r4
    omega⟩
  obtain ⟨e1, _⟩ := nw_is hbd (by omega)
  obtain ⟨b1, b2⟩ := nw_r hbd (by omega)
  have hr : r64 r ≤ 1 / 1024 := by
    have h5 := of_int_le (k := D64) r4
    have e5 : ((2 ^ (D64 - 10) : Int) : Rat) / two D64 = 1 / 1024 := by
      have e6 : ((2 ^ (D64 - 10) : Int) : Rat) = two (D64 - 10) := by rw [gNum.pc]; rfl
      have e7 : two D64 = two 10 * two (D64 - 10) := by rw [← two_add]; rfl
      rw [e6, e7, two_num 10 1024 rfl]
      have := two_pos (D64 - 10)
      grind
    rw [e5] at h5
    exact h5
  have hq : r32 (nw r) ≤ 1 / 1024 + 1 / 4194304 := by
    rw [show two 0 = 1 from rfl, two_num 22 4194304 rfl] at b2
    unfold nr at b2
    grind
  have el : lgW x = nw r := by unfold lgW; rw [r1]; rfl
  rw [el]
  exact ⟨hp, r, r1, e1, b1, hq⟩
theorem long_c {x : Nat × Nat} (hx : Cb x 4) (h1 : nr (r32 x.1) 0 (1 / 4096)) (h2 : nr (r32 x.2) 0 (1 / 4096)) (w : World) :
    Calls Try.prog 41 #[.complex .f32 x.1 x.2] w fun e w' => e = .returned (.float .f32 (lgW x)) ∧ w = w' := by
  obtain ⟨hp, r, r1, e1, _, _⟩ := long_num hx h1 h2
  have hcn := cvn e1
  clear e1 h1 h2
  go_enter Try.func41, Try.ntmps41
  go_wp2_with fail
  refine (widen_c hp.a1 hp.a2 _).mono ?_
  rintro e w' ⟨rfl, rfl⟩
  go_wp2_with fail
  refine (power_c hp _).mono ?_
  rintro e w' ⟨rfl, rfl⟩
  go_wp2_with fail
  refine (sqrt_c r1 _).mono ?_
  rintro e w' ⟨rfl, rfl⟩
  go_wp2_with fail
  go_ret
  exact ⟨rfl, rfl⟩

/-! ## the length of a difference -/
theorem csub {a b c d p q : Nat} (h1 : floatBits .sub .f32 a c = some p) (h2 : floatBits .sub .f32 b d = some q) (w : World) (t : TypeId) : (binOp .sub t (.complex .f32 a b) (.complex .f32 c d)).run Try.prog w = .ok (.complex .f32 p q) w :=
  run_complex_sum w .sub (.inr rfl) t .f32 a b c d p q (by simp [cSumBits, h1, h2])
theorem nr_le {a b d e : Rat} (h : nr a b d) (h2 : d ≤ e) : nr (a - b) 0 e := by unfold nr at *; grind
def apW (x y : Nat × Nat) : Nat := wd (lgW (subw x y))
theorem apart_num {x y : Nat × Nat} (hx : Cb x 3) (hy : Cb y 3) (h1 : nr (r32 x.1) (r32 y.1) (1 / 8192)) (h2 : nr (r32 x.2) (r32 y.2) (1 / 8192)) :
    floatBits .sub .f32 x.1 y.1 = some (subw x y).1 ∧ floatBits .sub .f32 x.2 y.2 = some (subw x y).2 ∧ Cb (subw x y) 4 ∧ nr (r32 (subw x y).1) 0 (1 / 4096) ∧ nr (r32 (subw x y).2) 0 (1 / 4096) := by
  obtain ⟨e1, b1, n1⟩ := sub32 hx.1 hy.1 (by omega)
  obtain ⟨e2, b2, n2⟩ := sub32 hx.2 hy.2 (by omega)
  rw [show two (3 + 1) = 16 from rfl, two_num 22 4194304 rfl] at n1 n2
  exact ⟨e1, e2, ⟨b1, b2⟩, nr_mono (nr_trans n1 (nr_le h1 (Rat.le_refl))) (by grind), nr_mono (nr_trans n2 (nr_le h2 (Rat.le_refl))) (by grind)⟩
theorem apart_small {x y : Nat × Nat} (hx : Cb x 3) (hy : Cb y 3) (h1 : nr (r32 x.1) (r32 y.1) (1 / 8192)) (h2 : nr (r32 x.2) (r32 y.2) (1 / 8192)) : FinW double (apW x y) ∧ r64 (apW x y) ≤ 1 / 1024 + 1 / 4194304 := by
  obtain ⟨_, _, hc, m1, m2⟩ := apart_num hx hy h1 h2
  obtain ⟨_, r, _, _, b, hq⟩ := long_num hc m1 m2
  obtain ⟨f2, f3⟩ := wd_r b.1
  exact ⟨f2, by unfold apW; rw [f3]; exact hq⟩
theorem apart_c : True := trivial
/-- 0.001, in 64 bits. -/
theorem milli : FinW double 4562254508917369340 ∧ 1 / 1024 + 1 / 4194304 ≤ r64 4562254508917369340 := by
  refine ⟨by unfold values.FinW; decide +kernel, ?_⟩
  have h : (999 : Int) * 2 ^ (D64 - 12) * 4096 ≤ V double 4562254508917369340 * 1000000 := by decide +kernel
  have hD : two D64 = two 12 * two (D64 - 12) := by rw [← two_add]; rfl
  have h2 : (999 : Rat) * two (D64 - 12) * 4096 ≤ (V double 4562254508917369340 : Rat) * 1000000 := by
    have e : ((999 * 2 ^ (D64 - 12) * 4096 : Int) : Rat) = 999 * two (D64 - 12) * 4096 := by
      rw [Rat.intCast_mul, cast_pow]
      rfl
    have h' := Rat.intCast_le_intCast.2 h
    rw [e, Rat.intCast_mul] at h'
    exact h'
  unfold r64
  rw [hD, two_num 12 4096 rfl]
  have hp := two_pos (D64 - 12)
  have hq : 0 < (4096 : Rat) * two (D64 - 12) := by grind
  have h3 := Rat.mul_le_mul_of_nonneg_right h2 (Rat.le_of_lt (Rat.inv_pos.2 hq))
  grind
theorem gt_r {x y : Nat} (hx : FinW double x) (hy : FinW double y) (h : r64 x ≤ r64 y) : (FloatKind.f64.format.order x y == some .gt) = false := gt_no hx hy (r64_mono h)

end Go.Proofs.Ytbefoiikbbjjfaa.powW
