/- The root of a number of 64 bits is near to the exact one, from both sides. -/
import Derived.Test.YtabbfpjngbiohaaRows
import Derived.Test.YtabbfpjngbiohaaSlc
import Derived.Test.YtabbfpjngbiohaaR8
import Derived.Test.YtabbfpjngbiohaaSrc
import Derived.Test.YtabbfpjngbiohaaFloats
import Derived.Test.YtabbfpjngbiohaaRound
import Derived.Test.YtabbfpjngbiohaaValues
import Derived.Test.YtabbfpjngbiohaaConv
import Derived.Test.YtabbfpjngbiohaaFWalk
import Derived.Test.YtabbfpjngbiohaaFinWalk
import Derived.Test.YtabbfpjngbiohaaFloat2
import Derived.Test.YtabbfpjngbiohaaFloat3
import Derived.Test.YtabbfpjngbiohaaPhase
import Derived.Test.YtabbfpjngbiohaaSine
import Derived.Test.YtabbfpjngbiohaaPhasor
import Derived.Test.YtabbfpjngbiohaaListC
import Derived.Test.YtabbfpjngbiohaaSteerNum
import Derived.Test.YtabbfpjngbiohaaSineIn
import Derived.Test.YtabbfpjngbiohaaPolyNum
import Derived.Test.YtabbfpjngbiohaaPolyW
import Derived.Test.YtabbfpjngbiohaaPoly1
import Derived.Test.YtabbfpjngbiohaaGPoly
import Derived.Test.YtabbfpjngbiohaaGNum
import Derived.Test.YtabbfpjngbiohaaRq
import Derived.Test.YtabbfpjngbiohaaRoot
import Derived.Test.YtabbfpjngbiohaaPowW
import Derived.WalkKit
import Derived.ProofKit
import Derived.OpenShut
import Derived.ShutString
import Derived.ChangeOld
import Derived.Below
import Derived.Lib.Hide
import Derived.BigQuiet
import Derived.Deep.QuietTactic
import Derived.WalkLawsBesides
import Derived.Outline
import Derived.Deep.QuietTactic
import Derived.BigQuiet
import Derived.Deep.LoopGhost
import Derived.Laws.ComplexArith
namespace Go.Proofs.Ytabbfpjngbiohaa.rootN
open Go.ChangeShapes Go.WideShapes Go.ChangeAt Go.RowKit
open Go.ChangeMaps (open_string shut_string)
set_option linter.unusedVariables false
open Go Ieee Go.RowKit
open Go.Proofs.Ytabbfpjngbiohaa.slc Go.Proofs.Ytabbfpjngbiohaa.floats Go.Proofs.Ytabbfpjngbiohaa.round Go.Proofs.Ytabbfpjngbiohaa.values Go.Proofs.Ytabbfpjngbiohaa.conv Go.Proofs.Ytabbfpjngbiohaa.fWalk Go.Proofs.Ytabbfpjngbiohaa.float2 Go.Proofs.Ytabbfpjngbiohaa.float3 Go.Proofs.Ytabbfpjngbiohaa.phase Go.Proofs.Ytabbfpjngbiohaa.sine Go.Proofs.Ytabbfpjngbiohaa.phasor Go.Proofs.Ytabbfpjngbiohaa.listC Go.Proofs.Ytabbfpjngbiohaa.sineIn Go.Proofs.Ytabbfpjngbiohaa.polyNum Go.Proofs.Ytabbfpjngbiohaa.polyW Go.Proofs.Ytabbfpjngbiohaa.poly1 Go.Proofs.Ytabbfpjngbiohaa.gPoly Go.Proofs.Ytabbfpjngbiohaa.gNum Go.Proofs.Ytabbfpjngbiohaa.rq Go.Proofs.Ytabbfpjngbiohaa.root Go.Proofs.Ytabbfpjngbiohaa.powW

theorem cast_mul (a b : Nat) : ((a * b : Nat) : Rat) = (a : Rat) * (b : Rat) := by push_cast; rfl
theorem quo_aux (M T : Nat) (h : (0 : Rat) < (T : Rat)) : (((M : Nat) : Int) : Rat) / (T : Rat) = ((M * T : Nat) : Rat) / ((T : Rat) * (T : Rat)) := by
  rw [cast_mul, Rat.intCast_natCast]
  generalize (T : Rat) = T at *
  generalize (M : Rat) = K
  grind
theorem mul_pw (m a b : Nat) : m * 2 ^ a * 2 ^ b = m * 2 ^ (a + b) := by rw [Nat.mul_assoc, ← Nat.pow_add]
theorem two_pw (a b c d : Nat) (h : a + b + 1 ≤ c + d) : 2 * (2 ^ a * 2 ^ b) ≤ 2 ^ c * 2 ^ d := by
  rw [← Nat.pow_add, ← Nat.pow_succ', ← Nat.pow_add]
  exact Nat.pow_le_pow_right (by omega) h
theorem root_max (n t root : Nat) (h : n < (root + 2 ^ t) * (root + 2 ^ t)) : n < (Datum.rootFrom n t root + 1) * (Datum.rootFrom n t root + 1) := by
  induction t generalizing root with
  | zero => exact h
  | succ t ih =>
    unfold Datum.rootFrom
    dsimp only
    have e : 1 <<< t = 2 ^ t := by rw [Nat.shiftLeft_eq, Nat.one_mul]
    rw [e]
    split
    · refine ih _ ?_
      rw [Nat.add_assoc, ← Nat.two_mul, ← Nat.pow_succ']
      exact h
    · exact ih _ (by omega)
theorem mag_two {w n : Nat} (h : w * w ≤ n) (h2 : n < (w + 1) * (w + 1)) (hn : 2 ^ 108 ≤ n) : 4 * n * 2 ^ 54 ≤ (2 * w + (w * w != n).toNat) * (2 * w + (w * w != n).toNat) * 2 ^ 54 + 4 * n ∧ (2 * w + (w * w != n).toNat) * (2 * w + (w * w != n).toNat) * 2 ^ 54 ≤ 4 * n * 2 ^ 54 + 4 * n := by
  have hw : 2 ^ 54 ≤ w := by
    refine Nat.le_of_not_lt fun q => ?_
    have : (w + 1) * (w + 1) ≤ 2 ^ 54 * 2 ^ 54 := Nat.mul_le_mul q q
    omega
  have hww : w * 2 ^ 54 ≤ w * w := Nat.mul_le_mul_left _ hw
  have e1 : (w + 1) * (w + 1) = w * w + 2 * w + 1 := by grind
  rcases Decidable.em (w * w = n) with q | q
  · have : (w * w != n).toNat = 0 := by simp [q]
    rw [this, Nat.add_zero]
    have e2 : 2 * w * (2 * w) = 4 * (w * w) := by grind
    rw [e2]
    omega
  · have : (w * w != n).toNat = 1 := by simp [q]
    rw [this]
    have e2 : (2 * w + 1) * (2 * w + 1) = 4 * (w * w) + 4 * w + 1 := by grind
    rw [e2]
    omega
theorem root_near {m i' : Nat} (hm : m ≠ 0) (hm53 : m < 2 ^ 53) :
    ∃ (mag p : Nat), (Datum.number false m (-1074 + i')).root 54 = some (.number false mag (-1074 + p)) ∧ m * 2 ^ i' * 2 ^ 1074 * 2 ^ 54 ≤ mag * 2 ^ p * (mag * 2 ^ p) * 2 ^ 54 + m * 2 ^ i' * 2 ^ 1074 ∧ mag * 2 ^ p * (mag * 2 ^ p) * 2 ^ 54 ≤ m * 2 ^ i' * 2 ^ 1074 * 2 ^ 54 + m * 2 ^ i' * 2 ^ 1074 := by
  unfold Datum.root
  dsimp only
  rw [if_neg hm]
  simp only [Bool.false_eq_true, if_false]
  have hl : m.log2 < 53 := (Nat.log2_lt hm).2 hm53
  generalize hM : 2 * 54 - m.log2 + ((-1074 + (i' : Int) - (2 * 54 - m.log2 : Nat)) % 2).toNat = more
  have hmore : more ≤ 109 := by omega
  have hmore2 : 108 ≤ m.log2 + more := by omega
  obtain ⟨h, hh⟩ : ∃ h : Int, -1074 + (i' : Int) - more = 2 * h := by
    refine ⟨(-1074 + (i' : Int) - more) / 2, ?_⟩
    omega
  have hplace : (-1074 + (i' : Int) - more) / 2 - 1 = h - 1 := by omega
  obtain ⟨p, hp⟩ : ∃ p : Nat, h - 1 = -1074 + (p : Int) := ⟨(h + 1073).toNat, by omega⟩
  have hexp : more + 2 * p = i' + 1072 := by omega
  rw [hplace, hp, Nat.shiftLeft_eq]
  refine ⟨_, p, rfl, ?_⟩
  have hn : 2 ^ 108 ≤ m * 2 ^ more := by
    calc 2 ^ 108 ≤ 2 ^ (m.log2 + more) := Nat.pow_le_pow_right (by omega) hmore2
      _ = 2 ^ m.log2 * 2 ^ more := Nat.pow_add _ _ _
      _ ≤ m * 2 ^ more := Nat.mul_le_mul_right _ (Nat.log2_self_le hm)
  have hw := root_sq (m * 2 ^ more) ((m * 2 ^ more).log2 / 2 + 1) 0 (by simp)
  have hx := root_max (m * 2 ^ more) ((m * 2 ^ more).log2 / 2 + 1) 0 (by
    rw [Nat.zero_add, ← Nat.pow_add]
    have := Nat.lt_log2_self (n := m * 2 ^ more)
    exact Nat.lt_of_lt_of_le this (Nat.pow_le_pow_right (by omega) (by omega)))
  obtain ⟨q1, q2⟩ := mag_two hw hx hn
  generalize 2 * Datum.rootFrom (m * 2 ^ more) ((m * 2 ^ more).log2 / 2 + 1) 0 + (Datum.rootFrom (m * 2 ^ more) ((m * 2 ^ more).log2 / 2 + 1) 0 * Datum.rootFrom (m * 2 ^ more) ((m * 2 ^ more).log2 / 2 + 1) 0 != m * 2 ^ more).toNat = mag at q1 q2 ⊢
  have eA : mag * 2 ^ p * (mag * 2 ^ p) = mag * mag * (2 ^ p * 2 ^ p) := Nat.mul_mul_mul_comm _ _ _ _
  have eY : m * 2 ^ i' * 2 ^ 1074 = 4 * (m * 2 ^ more) * (2 ^ p * 2 ^ p) := by
    calc m * 2 ^ i' * 2 ^ 1074 = m * 2 ^ (i' + 1074) := mul_pw m i' 1074
      _ = m * 2 ^ (2 + (more + (p + p))) := by rw [show i' + 1074 = 2 + (more + (p + p)) by omega]
      _ = m * (4 * (2 ^ more * (2 ^ p * 2 ^ p))) := by rw [Nat.pow_add 2 2, Nat.pow_add 2 more, Nat.pow_add 2 p]
      _ = 4 * (m * 2 ^ more) * (2 ^ p * 2 ^ p) := by
        generalize 2 ^ p * 2 ^ p = P
        generalize 2 ^ more = M
        grind
  rw [eA, eY]
  clear eA eY
  generalize 2 ^ p * 2 ^ p = P
  generalize 4 * (m * 2 ^ more) = N at *
  generalize mag * mag = A at *
  generalize 2 ^ 54 = Q at *
  have z1 := Nat.mul_le_mul_right P q1
  have z2 := Nat.mul_le_mul_right P q2
  exact ⟨by grind, by grind⟩
theorem near_div {u v P : Rat} (hP : 0 < P) (h1 : v * 18014398509481984 ≤ u * 18014398509481984 + v) (h2 : u * 18014398509481984 ≤ v * 18014398509481984 + v) : nr (u / P) (v / P) (v / P / 18014398509481984) := by
  have hi : 0 ≤ P⁻¹ := Rat.le_of_lt (Rat.inv_pos.2 hP)
  rw [Rat.div_def u, Rat.div_def v]
  have a := Rat.mul_le_mul_of_nonneg_right h1 hi
  have b := Rat.mul_le_mul_of_nonneg_right h2 hi
  generalize P⁻¹ = I at *
  unfold nr
  generalize e1 : u * I = U at *
  generalize e2 : v * I = W at *
  have a' : W * 18014398509481984 ≤ U * 18014398509481984 + W := by subst e1 e2; grind
  have b' : U * 18014398509481984 ≤ W * 18014398509481984 + W := by subst e1 e2; grind
  constructor <;> grind
theorem D1074 : D64 = 1074 := D64_is
/-- The root of x, and the exact number that it is rounded from. -/
theorem root_r {x : Nat} (h : FinW double x) (h0 : 0 < V double x) (hb : (V double x).natAbs ≤ 2 ^ (D64 + 7)) :
    ∃ r, double.sqrt x = some r ∧ Bd r (D64 + 4) ∧ ∃ z : Rat, 0 ≤ z ∧ nr (r64 r) z (two 4 / two 50) ∧ nr (z * z) (r64 x) (r64 x / 18014398509481984) := by
  obtain ⟨m, e, ex, vx⟩ := read_fin double h
  have hV : V double x = sg (sgn double x) (mv double (rg double x)) := rfl
  rw [V_read vx, sg_abs] at hb
  have hm53 := fin_mag h ex
  have hm : m ≠ 0 := by
    intro q
    subst q
    rw [hV, ← vx, Nat.zero_mul] at h0
    cases sgn double x <;> simp [sg] at h0
  have hs : sgn double x = false := by
    cases hs : sgn double x with
    | false => rfl
    | true =>
      exfalso
      rw [hV, hs, ← vx] at h0
      simp only [sg, if_true] at h0
      omega
  have hVm : V double x = ((m * 2 ^ e : Nat) : Int) := by rw [hV, hs, ← vx]; rfl
  rw [lp64, hs] at ex
  obtain ⟨mag, p, er, n1, n2⟩ := root_near (i' := e) hm hm53
  have e1 : double.sqrt x = some (double.nearest false mag (-1074 + p)) := by
    unfold Format.sqrt; rw [ex, show double.fractionBits + 2 = 54 from rfl, er]; rfl
  have hA : mag * 2 ^ p ≤ 2 ^ (D64 + 4) := by
    refine root.sq_le ?_
    have : mag * 2 ^ p * (mag * 2 ^ p) ≤ 2 * (m * 2 ^ e * 2 ^ 1074) := by
      generalize mag * 2 ^ p * (mag * 2 ^ p) = A at *
      generalize m * 2 ^ e * 2 ^ 1074 = Y at *
      omega
    refine Nat.le_trans this ?_
    have q := Nat.mul_le_mul_left 2 (Nat.mul_le_mul_right (2 ^ 1074) hb)
    refine Nat.le_trans q ?_
    exact two_pw (D64 + 7) 1074 (D64 + 4) (D64 + 4) (by rw [D1074]; omega)
  have hmv : mag * 2 ^ p ≤ mv double (pw (52 + D64)) * 2 ^ 0 := by
    rw [Nat.pow_zero, Nat.mul_one, mv52, ← Nat.pow_add]
    exact Nat.le_trans hA (Nat.pow_le_pow_right (by omega) (by omega))
  have hh := (nearest_rnd double false mag (-1074 + p) (p := p) (d := 0) (by rw [lp64]; omega) (hi := pw (52 + D64)) pw52 hmv).1
  obtain ⟨b1, b2⟩ := near64 (e := 4) hh (by rw [sg_abs]; generalize 2 ^ (D64 + 4) = X at hA ⊢; exact hA) (by omega)
  refine ⟨_, e1, b1, _, ?_, b2, ?_⟩
  · rw [sg_false, two_zero, Rat.mul_one]
    rw [Rat.div_def]
    exact Rat.mul_nonneg (by exact_mod_cast Nat.zero_le _) (Rat.le_of_lt (Rat.inv_pos.2 (two_pos _)))
  · rw [sg_false, two_zero, Rat.mul_one]
    have eT : two D64 = ((2 ^ 1074 : Nat) : Rat) := by unfold two; rw [D1074]
    generalize 2 ^ 1074 = E at n1 n2 eT
    have eX : r64 x = ((m * 2 ^ e * E : Nat) : Rat) / (two D64 * two D64) := by
      unfold r64
      rw [hVm, eT]
      exact quo_aux (m * 2 ^ e) E (by rw [← eT]; exact two_pos _)
    have eZ : ((mag * 2 ^ p : Nat) : Rat) / two D64 * (((mag * 2 ^ p : Nat) : Rat) / two D64) = ((mag * 2 ^ p * (mag * 2 ^ p) : Nat) : Rat) / (two D64 * two D64) := by
      rw [show ((mag * 2 ^ p * (mag * 2 ^ p) : Nat) : Rat) = ((mag * 2 ^ p : Nat) : Rat) * ((mag * 2 ^ p : Nat) : Rat) by push_cast; rfl]
      have hp := two_pos D64
      generalize two D64 = T at *
      generalize ((mag * 2 ^ p : Nat) : Rat) = K
      grind
    rw [eX, show (((mag * 2 ^ p : Nat) : Int) : Rat) = ((mag * 2 ^ p : Nat) : Rat) by rw [Rat.intCast_natCast], eZ]
    refine near_div ?_ ?_ ?_
    · have hp := two_pos D64
      exact Rat.mul_pos hp hp
    · have := n1
      generalize mag * 2 ^ p * (mag * 2 ^ p) = A at *
      generalize m * 2 ^ e * E = Y at *
      rw [show (2 : Nat) ^ 54 = 18014398509481984 from rfl] at this
      exact_mod_cast this
    · have := n2
      generalize mag * 2 ^ p * (mag * 2 ^ p) = A at *
      generalize m * 2 ^ e * E = Y at *
      rw [show (2 : Nat) ^ 54 = 18014398509481984 from rfl] at this
      exact_mod_cast this

end Go.Proofs.Ytabbfpjngbiohaa.rootN
