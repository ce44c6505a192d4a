/- The words of normed weights: the root, its quotient, the products, and their power. -/
import Derived.Test.YtabbfpjngbiohaaRows
import Derived.Test.YtabbfpjngbiohaaSlc
import Derived.Test.YtabbfpjngbiohaaR8
import Derived.Test.YtabbfpjngbiohaaSrc
import Derived.Test.YtabbfpjngbiohaaFloats
import Derived.Test.YtabbfpjngbiohaaRound
import Derived.Test.YtabbfpjngbiohaaValues
import Derived.Test.YtabbfpjngbiohaaConv
import Derived.Test.YtabbfpjngbiohaaFWalk
import Derived.Test.YtabbfpjngbiohaaFinWalk
import Derived.Test.YtabbfpjngbiohaaFloat2
import Derived.Test.YtabbfpjngbiohaaFloat3
import Derived.Test.YtabbfpjngbiohaaPhase
import Derived.Test.YtabbfpjngbiohaaSine
import Derived.Test.YtabbfpjngbiohaaPhasor
import Derived.Test.YtabbfpjngbiohaaListC
import Derived.Test.YtabbfpjngbiohaaSteerNum
import Derived.Test.YtabbfpjngbiohaaSineIn
import Derived.Test.YtabbfpjngbiohaaPolyNum
import Derived.Test.YtabbfpjngbiohaaPolyW
import Derived.Test.YtabbfpjngbiohaaPoly1
import Derived.Test.YtabbfpjngbiohaaGPoly
import Derived.Test.YtabbfpjngbiohaaGNum
import Derived.Test.YtabbfpjngbiohaaSrcW
import Derived.Test.YtabbfpjngbiohaaRq
import Derived.Test.YtabbfpjngbiohaaRoot
import Derived.Test.YtabbfpjngbiohaaPowW
import Derived.Test.YtabbfpjngbiohaaRootN
import Derived.Test.YtabbfpjngbiohaaQuoN
import Derived.Test.YtabbfpjngbiohaaFine
import Derived.Test.YtabbfpjngbiohaaFineN
import Derived.Test.YtabbfpjngbiohaaNormQ
import Derived.WalkKit
import Derived.ProofKit
import Derived.OpenShut
import Derived.ShutString
import Derived.ChangeOld
import Derived.Below
import Derived.Lib.Hide
import Derived.BigQuiet
import Derived.Deep.QuietTactic
import Derived.WalkLawsBesides
import Derived.Outline
import Derived.Deep.QuietTactic
import Derived.BigQuiet
import Derived.Deep.LoopGhost
import Derived.Laws.ComplexArith
namespace Go.Proofs.Ytabbfpjngbiohaa.normNum
open Go.ChangeShapes Go.WideShapes Go.ChangeAt Go.RowKit
open Go.ChangeMaps (open_string shut_string)
set_option linter.unusedVariables false
open Go Ieee Go.RowKit
open Go.Proofs.Ytabbfpjngbiohaa.slc Go.Proofs.Ytabbfpjngbiohaa.floats Go.Proofs.Ytabbfpjngbiohaa.round Go.Proofs.Ytabbfpjngbiohaa.values Go.Proofs.Ytabbfpjngbiohaa.conv Go.Proofs.Ytabbfpjngbiohaa.fWalk Go.Proofs.Ytabbfpjngbiohaa.float2 Go.Proofs.Ytabbfpjngbiohaa.float3 Go.Proofs.Ytabbfpjngbiohaa.phase Go.Proofs.Ytabbfpjngbiohaa.sine Go.Proofs.Ytabbfpjngbiohaa.phasor Go.Proofs.Ytabbfpjngbiohaa.listC Go.Proofs.Ytabbfpjngbiohaa.sineIn Go.Proofs.Ytabbfpjngbiohaa.polyNum Go.Proofs.Ytabbfpjngbiohaa.polyW Go.Proofs.Ytabbfpjngbiohaa.poly1 Go.Proofs.Ytabbfpjngbiohaa.gPoly Go.Proofs.Ytabbfpjngbiohaa.gNum Go.Proofs.Ytabbfpjngbiohaa.rq Go.Proofs.Ytabbfpjngbiohaa.powW Go.Proofs.Ytabbfpjngbiohaa.rootN Go.Proofs.Ytabbfpjngbiohaa.quoN Go.Proofs.Ytabbfpjngbiohaa.fine Go.Proofs.Ytabbfpjngbiohaa.fineN Go.Proofs.Ytabbfpjngbiohaa.normQ

theorem s141 (k : Int) : k * 2 ^ 141 * 2 ^ 925 = k * 2 ^ 1066 := by
  rw [Int.mul_assoc, ← Int.pow_add]
theorem pw1_le (a b c : Nat) (h : a + b ≤ c) : 2 ^ a * 2 ^ b ≤ 2 ^ c := by
  rw [← Nat.pow_add]
  exact Nat.pow_le_pow_right (by omega) h
theorem pos_pw (K : Int) (h : 0 < K) (d : Nat) : 0 < K * 2 ^ d := Int.mul_pos h (Int.pow_pos (by decide))
theorem abs_pw (K : Int) (a d c : Nat) (h : K.natAbs ≤ 2 ^ a) (h2 : a + d ≤ c) : (K * 2 ^ d).natAbs ≤ 2 ^ c := by
  rw [k_abs]
  exact Nat.le_trans (Nat.mul_le_mul_right _ h) (pw1_le a d c h2)
theorem narrow_256 {x : Nat} {k : Int} (h : Sd 1066 x k) (hk : k.natAbs ≤ 2 ^ 23) : floatToFloatBits .f64 x .f32 = some (nw x) ∧ FinW single (nw x) ∧ V single (nw x) = k * 2 ^ 141 := by
  have hb : (V double x).natAbs ≤ mv single (ps 24) * 2 ^ 925 := by
    rw [h.2, gNum.nb]
    exact abs_pw k 23 1066 _ hk (by rw [D64_is]; omega)
  obtain ⟨r, hr, hrr⟩ := narrow_rnd h.1 (ps_inf (e := 24) (by omega)) hb
  have e1 : nw x = r := by unfold nw; rw [hr]; rfl
  obtain ⟨c, c1, c2⟩ := grid32 141 (by omega) (by omega) k hk
  have e2 := rnd_exact hrr c1 (by rw [c2, h.2, s141])
  rw [e1]
  exact ⟨hr, hrr.fin, by rw [e2, c2]⟩
theorem wide_256 {x : Nat} {k : Int} (h : FinW single x) (hv : V single x = k * 2 ^ 141) (hk : k.natAbs ≤ 2 ^ 23) : floatToFloatBits .f32 x .f64 = some (wd x) ∧ Sd 1066 (wd x) k := by
  obtain ⟨r, hr, hrr⟩ := widen_rnd h
  have e1 : wd x = r := by unfold wd; rw [hr]; rfl
  obtain ⟨c, c1, c2⟩ := grid64 1066 (by omega) (by omega) k (Nat.le_trans hk (by decide))
  have e2 := rnd_exact hrr c1 (by rw [c2, hv, Int.pow_zero, Int.mul_one, s141])
  rw [e1]
  exact ⟨hr, hrr.fin, by rw [e2, c2]⟩
def rtW (p : Nat) : Nat := nw ((double.sqrt (wd p)).getD 0)
def byW (p : Nat) : Nat := (floatBits .quo .f32 1065353216 (rtW p)).getD 0
theorem one32 : FinW single 1065353216 ∧ V single 1065353216 = 1 * 2 ^ 149 := ⟨S32.one.1, S32.one.2⟩
theorem r_one : r32 1065353216 = 1 := by
  unfold r32
  rw [one32.2, cast_pow]
  have := two_pos 149
  grind
theorem lo_of_r {x y : Nat} {e : Nat} (h : r32 x * 2 ≤ r32 y * two e) : V single x * 2 ≤ V single y * 2 ^ e := by
  unfold r32 at h
  have hp := two_pos 149
  have a := Rat.mul_le_mul_of_nonneg_right h (Rat.le_of_lt hp)
  have e1 : (V single x : Rat) / two 149 * 2 * two 149 = (V single x : Rat) * 2 := by grind
  have e2 : (V single y : Rat) / two 149 * two e * two 149 = (V single y : Rat) * two e := by grind
  rw [e1, e2, ← cast_pow] at a
  exact_mod_cast a
theorem pos_of_r {x : Nat} (h : 0 < r32 x) : 0 < V single x := by
  refine Int.not_le.1 fun q => ?_
  have : (V single x : Rat) ≤ ((0 : Int) : Rat) := by exact_mod_cast q
  have hp : 0 ≤ (two 149)⁻¹ := Rat.le_of_lt (Rat.inv_pos.2 (two_pos 149))
  have := Rat.mul_le_mul_of_nonneg_right this hp
  unfold r32 at h
  rw [Rat.div_def] at h
  rw [show ((0 : Int) : Rat) = 0 from rfl] at this
  grind
/-- The root of the power of weights in sixteenths, and 1 by it. -/
theorem by_ok {p : Nat} {K : Int} (hp : FinW single p) (hv : V single p = K * 2 ^ 141) (h1 : 1 ≤ K) (h2 : K ≤ 16384) :
    ∃ s, floatToFloatBits .f32 p .f64 = some (wd p) ∧ double.sqrt (wd p) = some s ∧ floatToFloatBits .f64 s .f32 = some (rtW p) ∧ floatBits .quo .f32 1065353216 (rtW p) = some (byW p) ∧ FinW single (byW p) ∧ nq (r32 (byW p) * r32 (byW p) * ((K : Rat) / 256)) 1 (1 / 5000) := by
  have K0 : 0 < K := by omega
  obtain ⟨w1, w2⟩ := wide_256 hp hv (by omega)
  have hr := w2.r
  have P1 : (1 : Rat) / 256 ≤ (K : Rat) / 256 := by
    have : ((1 : Int) : Rat) ≤ (K : Rat) := by exact_mod_cast h1
    rw [show ((1 : Int) : Rat) = 1 from rfl] at this
    grind
  have P2 : (K : Rat) / 256 ≤ 64 := by
    have : (K : Rat) ≤ ((16384 : Int) : Rat) := Rat.intCast_le_intCast.2 h2
    rw [show ((16384 : Int) : Rat) = 16384 from rfl] at this
    grind
  obtain ⟨s, s1, s2, z, z0, z1, z2⟩ := root_r w2.1 (by rw [w2.2]; exact pos_pw K K0 1066) (by
    rw [w2.2]
    exact abs_pw K 15 1066 (D64 + 7) (by omega) (by rw [D64_is]; omega))
  obtain ⟨t1, t2⟩ := nw_r s2 (by omega)
  obtain ⟨t3, _⟩ := nw_is s2 (by omega)
  have er : rtW p = nw s := by unfold rtW; rw [s1]; rfl
  rw [hr] at z2
  generalize (K : Rat) / 256 = P at *
  have hz := nr_trans t2 z1
  rw [two_num 4 16 rfl, two_num 22 4194304 rfl, two_num 50 1125899906842624 rfl] at hz
  obtain ⟨q1, q2, q3⟩ := root_q z0 P1 P2 z2 (r := r32 (nw s)) (by unfold nr at hz; unfold nq; grind)
  rw [← er] at t1 t3 q1 q2 q3
  have f1 := t1.1
  generalize hR : r32 (rtW p) = R at *
  have hpos : 0 < V single (rtW p) := pos_of_r (by rw [hR]; grind)
  have hq : ∃ e y, e ≤ 90 ∧ floatBits .quo .f32 1065353216 (rtW p) = some y ∧ FinW single y ∧ nq (r32 y * R) 1 (1 / 64000) := by
    rcases Decidable.em (R < 1) with q | q
    · obtain ⟨y, y1, y2, u, _, u1, u2⟩ := quo32 (e := 6) one32.1 f1 (pos_of_r (by rw [r_one]; decide)) hpos (by omega) (lo_of_r (by rw [hR, r_one, two_num 6 64 rfl]; grind))
      rw [hR, r_one] at u2
      rw [two_num 6 64 rfl, two_num 22 4194304 rfl] at u1
      exact ⟨6, y, by omega, y1, y2.1, quo_q (by grind) u1 u2 (by grind)⟩
    · obtain ⟨y, y1, y2, u, _, u1, u2⟩ := quo32 (e := 1) one32.1 f1 (pos_of_r (by rw [r_one]; decide)) hpos (by omega) (lo_of_r (by rw [hR, r_one, two_num 1 2 rfl]; grind))
      rw [hR, r_one] at u2
      rw [two_num 1 2 rfl, two_num 22 4194304 rfl] at u1
      exact ⟨1, y, by omega, y1, y2.1, quo_q (by grind) u1 u2 (by grind)⟩
  obtain ⟨e, y, _, y1, y2, y3⟩ := hq
  have ey : byW p = y := by unfold byW; rw [y1]; rfl
  rw [ey]
  exact ⟨s, w1, s1, t3, y1, y2, norm_q (by grind) q3 y3⟩
/-- A product whose bound is known. -/
theorem mul32_t {x y e : Nat} (hx : FinW single x) (hy : FinW single y) (h : nr (r32 x * r32 y) 0 (two e)) (he : e ≤ 90) : floatBits .mul .f32 x y = some (bm32 x y) ∧ Bs (bm32 x y) e ∧ nr (r32 (bm32 x y)) (r32 x * r32 y) (two e / two 22) := by
  have hb : (V single x * V single y).natAbs ≤ 2 ^ (149 + 149 + e) := by
    rw [← prod_r32] at h
    have hp : 0 < two 149 * two 149 := Rat.mul_pos (two_pos _) (two_pos _)
    unfold nr at h
    have eT : two 149 * two 149 * two e = (((2 ^ (149 + 149 + e) : Nat) : Int) : Rat) := by
      rw [← two_add, ← two_add, Rat.intCast_natCast]; rfl
    generalize two 149 * two 149 = T at *
    generalize V single x * V single y = W at *
    have a := Rat.mul_le_mul_of_nonneg_right h.1 (Rat.le_of_lt hp)
    have b := Rat.mul_le_mul_of_nonneg_right h.2 (Rat.le_of_lt hp)
    have a' : (W : Rat) ≤ T * two e := by
      have : ((W : Rat) / T - 0) * T = W := by grind
      grind
    have b' : -(W : Rat) ≤ T * two e := by
      have : (0 - (W : Rat) / T) * T = -W := by grind
      grind
    rw [eT] at a' b'
    have a2 : W ≤ ((2 ^ (149 + 149 + e) : Nat) : Int) := by exact_mod_cast a'
    have b2 : -W ≤ ((2 ^ (149 + 149 + e) : Nat) : Int) := by exact_mod_cast b'
    generalize 2 ^ (149 + 149 + e) = B at *
    omega
  obtain ⟨r, hr, hrr, _⟩ := mul_rnd single (D := 149) (by rw [lp32]; rfl) hx hy (hi := ps e) (ps_inf (by omega)) (by rw [mv_ps, ← Nat.pow_add, show 149 + e + 149 = 149 + 149 + e by omega]; exact hb)
  have er : bm32 x y = r := by unfold bm32; rw [show floatBits .mul .f32 x y = some r from hr]; rfl
  obtain ⟨b1, b2⟩ := near32 (e := e) hrr hb he
  rw [er]
  refine ⟨hr, b1, ?_⟩
  rwa [prod_r32] at b2

end Go.Proofs.Ytabbfpjngbiohaa.normNum
