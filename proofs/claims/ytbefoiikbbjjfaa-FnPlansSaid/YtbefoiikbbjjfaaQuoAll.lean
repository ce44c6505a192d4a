/- The root of a number of 64 bits is near to the exact one, from both sides. -/
/- The quotient of two numbers of 32 bits above 0 is near to the exact one. -/
import Derived.Test.YtbefoiikbbjjfaaRows
import Derived.Test.YtbefoiikbbjjfaaSlc
import Derived.Test.YtbefoiikbbjjfaaR8
import Derived.Test.YtbefoiikbbjjfaaSrc
import Derived.Test.YtbefoiikbbjjfaaFloatAll
import Derived.Test.YtbefoiikbbjjfaaFWalk
import Derived.Test.YtbefoiikbbjjfaaFinWalk
import Derived.Test.YtbefoiikbbjjfaaFlAll
import Derived.Test.YtbefoiikbbjjfaaPhasor
import Derived.Test.YtbefoiikbbjjfaaListC
import Derived.Test.YtbefoiikbbjjfaaSteerNum
import Derived.Test.YtbefoiikbbjjfaaSineIn
import Derived.Test.YtbefoiikbbjjfaaPolyAll
import Derived.Test.YtbefoiikbbjjfaaGAll
import Derived.Test.YtbefoiikbbjjfaaRoot
import Derived.Test.YtbefoiikbbjjfaaPowW
import Derived.WalkKit
import Derived.ProofKit
import Derived.OpenShut
import Derived.ShutString
import Derived.ChangeOld
import Derived.Below
import Derived.Lib.Hide
import Derived.BigQuiet
import Derived.Deep.QuietTactic
import Derived.WalkLawsBesides
import Derived.Outline
import Derived.Deep.LoopGhost
import Derived.Laws.ComplexArith
namespace Go.Proofs.Ytbefoiikbbjjfaa.rootN
open Go.ChangeShapes Go.WideShapes Go.ChangeAt Go.RowKit
open Go.ChangeMaps (open_string shut_string)
set_option linter.unusedVariables false
open Go Ieee Go.RowKit
open Go.Proofs.Ytbefoiikbbjjfaa.slc Go.Proofs.Ytbefoiikbbjjfaa.floats Go.Proofs.Ytbefoiikbbjjfaa.round Go.Proofs.Ytbefoiikbbjjfaa.values Go.Proofs.Ytbefoiikbbjjfaa.conv Go.Proofs.Ytbefoiikbbjjfaa.fWalk Go.Proofs.Ytbefoiikbbjjfaa.float2 Go.Proofs.Ytbefoiikbbjjfaa.float3 Go.Proofs.Ytbefoiikbbjjfaa.phase Go.Proofs.Ytbefoiikbbjjfaa.sine Go.Proofs.Ytbefoiikbbjjfaa.phasor Go.Proofs.Ytbefoiikbbjjfaa.listC Go.Proofs.Ytbefoiikbbjjfaa.sineIn Go.Proofs.Ytbefoiikbbjjfaa.polyNum Go.Proofs.Ytbefoiikbbjjfaa.polyW Go.Proofs.Ytbefoiikbbjjfaa.poly1 Go.Proofs.Ytbefoiikbbjjfaa.gPoly Go.Proofs.Ytbefoiikbbjjfaa.gNum Go.Proofs.Ytbefoiikbbjjfaa.rq Go.Proofs.Ytbefoiikbbjjfaa.root Go.Proofs.Ytbefoiikbbjjfaa.powW

theorem cast_mul (a b : Nat) : ((a * b : Nat) : Rat) = (a : Rat) * (b : Rat) := by push_cast; rfl
theorem quo_aux (M T : Nat) (h : (0 : Rat) < (T : Rat)) : (((M : Nat) : Int) : Rat) / (T : Rat) = ((M * T : Nat) : Rat) / ((T : Rat) * (T : Rat)) := by
  rw [cast_mul, Rat.intCast_natCast]
  generalize (T : Rat) = T at *
  generalize (M : Rat) = K
  grind
theorem mul_pw (m a b : Nat) : m * 2 ^ a * 2 ^ b = m * 2 ^ (a + b) := by rw [Nat.mul_assoc, ← Nat.pow_add]
theorem two_pw (a b c d : Nat) (h : a + b + 1 ≤ c + d) : 2 * (2 ^ a * 2 ^ b) ≤ 2 ^ c * 2 ^ d := by
  rw [← Nat.pow_add, ← Nat.pow_succ', ← Nat.pow_add]
  exact Nat.pow_le_pow_right (by omega) h
theorem root_max (n t root : Nat) (h : n < (root + 2 ^ t) * (root + 2 ^ t)) : n < (Datum.rootFrom n t root + 1) * (Datum.rootFrom n t root + 1) := by
  induction t generalizing root with
  | zero => exact h
  | succ t ih =>
    unfold Datum.rootFrom
    dsimp only
    have e : 1 <<< t = 2 ^ t := by rw [Nat.shiftLeft_eq, Nat.one_mul]
    rw [e]
    split
    · refine ih _ ?_
      rw [Nat.add_assoc, ← Nat.two_mul, ← Nat.pow_succ']
      exact h
    · exact ih _ (by omega)
theorem mag_two {w n : Nat} (h : w * w ≤ n) (h2 : n < (w + 1) * (w + 1)) (hn : 2 ^ 108 ≤ n) : 4 * n * 2 ^ 54 ≤ (2 * w + (w * w != n).toNat) * (2 * w + (w * w != n).toNat) * 2 ^ 54 + 4 * n ∧ (2 * w + (w * w != n).toNat) * (2 * w + (w * w != n).toNat) * 2 ^ 54 ≤ 4 * n * 2 ^ 54 + 4 * n := by
  have hw : 2 ^ 54 ≤ w := by
    refine Nat.le_of_not_lt fun q => ?_
    have : (w + 1) * (w + 1) ≤ 2 ^ 54 * 2 ^ 54 := Nat.mul_le_mul q q
    omega
  have hww : w * 2 ^ 54 ≤ w * w := Nat.mul_le_mul_left _ hw
  have e1 : (w + 1) * (w + 1) = w * w + 2 * w + 1 := by grind
  rcases Decidable.em (w * w = n) with q | q
  · have : (w * w != n).toNat = 0 := by simp [q]
    rw [this, Nat.add_zero]
    have e2 : 2 * w * (2 * w) = 4 * (w * w) := by grind
    rw [e2]
    omega
  · have : (w * w != n).toNat = 1 := by simp [q]
    rw [this]
    have e2 : (2 * w + 1) * (2 * w + 1) = 4 * (w * w) + 4 * w + 1 := by grind
    rw [e2]
    omega
theorem root_near {m i' : Nat} (hm : m ≠ 0) (hm53 : m < 2 ^ 53) :
    ∃ (mag p : Nat), (Datum.number false m (-1074 + i')).root 54 = some (.number false mag (-1074 + p)) ∧ m * 2 ^ i' * 2 ^ 1074 * 2 ^ 54 ≤ mag * 2 ^ p * (mag * 2 ^ p) * 2 ^ 54 + m * 2 ^ i' * 2 ^ 1074 ∧ mag * 2 ^ p * (mag * 2 ^ p) * 2 ^ 54 ≤ m * 2 ^ i' * 2 ^ 1074 * 2 ^ 54 + m * 2 ^ i' * 2 ^ 1074 := by
  unfold Datum.root
  dsimp only
  rw [if_neg hm]
  simp only [Bool.false_eq_true, if_false]
  have hl : m.log2 < 53 := (Nat.log2_lt hm).2 hm53
  generalize hM : 2 * 54 - m.log2 + ((-1074 + (i' : Int) - (2 * 54 - m.log2 : Nat)) % 2).toNat = more
  have hmore : more ≤ 109 := by omega
  have hmore2 : 108 ≤ m.log2 + more := by omega
  obtain ⟨h, hh⟩ : ∃ h : Int, -1074 + (i' : Int) - more = 2 * h := by
    refine ⟨(-1074 + (i' : Int) - more) / 2, ?_⟩
    omega
  have hplace : (-1074 + (i' : Int) - more) / 2 - 1 = h - 1 := by omega
  obtain ⟨p, hp⟩ : ∃ p : Nat, h - 1 = -1074 + (p : Int) := ⟨(h + 1073).toNat, by omega⟩
  have hexp : more + 2 * p = i' + 1072 := by omega
  rw [hplace, hp, Nat.shiftLeft_eq]
  refine ⟨_, p, rfl, ?_⟩
  have hn : 2 ^ 108 ≤ m * 2 ^ more := by
    calc 2 ^ 108 ≤ 2 ^ (m.log2 + more) := Nat.pow_le_pow_right (by omega) hmore2
      _ = 2 ^ m.log2 * 2 ^ more := Nat.pow_add _ _ _
      _ ≤ m * 2 ^ more := Nat.mul_le_mul_right _ (Nat.log2_self_le hm)
  have hw := root_sq (m * 2 ^ more) ((m * 2 ^ more).log2 / 2 + 1) 0 (by simp)
  have hx := root_max (m * 2 ^ more) ((m * 2 ^ more).log2 / 2 + 1) 0 (by
    rw [Nat.zero_add, ← Nat.pow_add]
    have := Nat.lt_log2_self (n := m * 2 ^ more)
    exact Nat.lt_of_lt_of_le this (Nat.pow_le_pow_right (by omega) (by omega)))
  obtain ⟨q1, q2⟩ := mag_two hw hx hn
  generalize 2 * Datum.rootFrom (m * 2 ^ more) ((m * 2 ^ more).log2 / 2 + 1) 0 + (Datum.rootFrom (m * 2 ^ more) ((m * 2 ^ more).log2 / 2 + 1) 0 * Datum.rootFrom (m * 2 ^ more) ((m * 2 ^ more).log2 / 2 + 1) 0 != m * 2 ^ more).toNat = mag at q1 q2 ⊢
  have eA : mag * 2 ^ p * (mag * 2 ^ p) = mag * mag * (2 ^ p * 2 ^ p) := Nat.mul_mul_mul_comm _ _ _ _
  have eY : m * 2 ^ i' * 2 ^ 1074 = 4 * (m * 2 ^ more) * (2 ^ p * 2 ^ p) := by
    calc m * 2 ^ i' * 2 ^ 1074 = m * 2 ^ (i' + 1074) := mul_pw m i' 1074
      _ = m * 2 ^ (2 + (more + (p + p))) := by rw [show i' + 1074 = 2 + (more + (p + p)) by omega]
      _ = m * (4 * (2 ^ more * (2 ^ p * 2 ^ p))) := by rw [Nat.pow_add 2 2, Nat.pow_add 2 more, Nat.pow_add 2 p]
      _ = 4 * (m * 2 ^ more) * (2 ^ p * 2 ^ p) := by
        generalize 2 ^ p * 2 ^ p = P
        generalize 2 ^ more = M
        grind
  rw [eA, eY]
  clear eA eY
  generalize 2 ^ p * 2 ^ p = P
  generalize 4 * (m * 2 ^ more) = N at *
  generalize mag * mag = A at *
  generalize 2 ^ 54 = Q at *
  have z1 := Nat.mul_le_mul_right P q1
  have z2 := Nat.mul_le_mul_right P q2
  exact ⟨by grind, by grind⟩
theorem near_div {u v P : Rat} (hP : 0 < P) (h1 : v * 18014398509481984 ≤ u * 18014398509481984 + v) (h2 : u * 18014398509481984 ≤ v * 18014398509481984 + v) : nr (u / P) (v / P) (v / P / 18014398509481984) := by
  have hi : 0 ≤ P⁻¹ := Rat.le_of_lt (Rat.inv_pos.2 hP)
  rw [Rat.div_def u, Rat.div_def v]
  have a := Rat.mul_le_mul_of_nonneg_right h1 hi
  have b := Rat.mul_le_mul_of_nonneg_right h2 hi
  generalize P⁻¹ = I at *
  unfold nr
  generalize e1 : u * I = U at *
  generalize e2 : v * I = W at *
  have a' : W * 18014398509481984 ≤ U * 18014398509481984 + W := by subst e1 e2; grind
  have b' : U * 18014398509481984 ≤ W * 18014398509481984 + W := by subst e1 e2; grind
  constructor <;> grind
theorem D1074 : D64 = 1074 := D64_is
/-- The root of x, and the exact number that it is rounded from. -/
theorem root_r {x : Nat} (h : FinW double x) (h0 : 0 < V double x) (hb : (V double x).natAbs ≤ 2 ^ (D64 + 7)) :
    ∃ r, double.sqrt x = some r ∧ Bd r (D64 + 4) ∧ ∃ z : Rat, 0 ≤ z ∧ nr (r64 r) z (two 4 / two 50) ∧ nr (z * z) (r64 x) (r64 x / 18014398509481984) := by
  obtain ⟨m, e, ex, vx⟩ := read_fin double h
  have hV : V double x = sg (sgn double x) (mv double (rg double x)) := rfl
  rw [V_read vx, sg_abs] at hb
  have hm53 := fin_mag h ex
  have hm : m ≠ 0 := by
    intro q
    subst q
    rw [hV, ← vx, Nat.zero_mul] at h0
    cases sgn double x <;> simp [sg] at h0
  have hs : sgn double x = false := by
    cases hs : sgn double x with
    | false => rfl
    | true =>
      exfalso
      rw [hV, hs, ← vx] at h0
      simp only [sg, if_true] at h0
      omega
  have hVm : V double x = ((m * 2 ^ e : Nat) : Int) := by rw [hV, hs, ← vx]; rfl
  rw [lp64, hs] at ex
  obtain ⟨mag, p, er, n1, n2⟩ := root_near (i' := e) hm hm53
  have e1 : double.sqrt x = some (double.nearest false mag (-1074 + p)) := by
    unfold Format.sqrt; rw [ex, show double.fractionBits + 2 = 54 from rfl, er]; rfl
  have hA : mag * 2 ^ p ≤ 2 ^ (D64 + 4) := by
    refine root.sq_le ?_
    have : mag * 2 ^ p * (mag * 2 ^ p) ≤ 2 * (m * 2 ^ e * 2 ^ 1074) := by
      generalize mag * 2 ^ p * (mag * 2 ^ p) = A at *
      generalize m * 2 ^ e * 2 ^ 1074 = Y at *
      omega
    refine Nat.le_trans this ?_
    have q := Nat.mul_le_mul_left 2 (Nat.mul_le_mul_right (2 ^ 1074) hb)
    refine Nat.le_trans q ?_
    exact two_pw (D64 + 7) 1074 (D64 + 4) (D64 + 4) (by rw [D1074]; omega)
  have hmv : mag * 2 ^ p ≤ mv double (pw (52 + D64)) * 2 ^ 0 := by
    rw [Nat.pow_zero, Nat.mul_one, mv52, ← Nat.pow_add]
    exact Nat.le_trans hA (Nat.pow_le_pow_right (by omega) (by omega))
  have hh := (nearest_rnd double false mag (-1074 + p) (p := p) (d := 0) (by rw [lp64]; omega) (hi := pw (52 + D64)) pw52 hmv).1
  obtain ⟨b1, b2⟩ := near64 (e := 4) hh (by rw [sg_abs]; generalize 2 ^ (D64 + 4) = X at hA ⊢; exact hA) (by omega)
  refine ⟨_, e1, b1, _, ?_, b2, ?_⟩
  · rw [sg_false, two_zero, Rat.mul_one]
    rw [Rat.div_def]
    exact Rat.mul_nonneg (by exact_mod_cast Nat.zero_le _) (Rat.le_of_lt (Rat.inv_pos.2 (two_pos _)))
  · rw [sg_false, two_zero, Rat.mul_one]
    have eT : two D64 = ((2 ^ 1074 : Nat) : Rat) := by unfold two; rw [D1074]
    generalize 2 ^ 1074 = E at n1 n2 eT
    have eX : r64 x = ((m * 2 ^ e * E : Nat) : Rat) / (two D64 * two D64) := by
      unfold r64
      rw [hVm, eT]
      exact quo_aux (m * 2 ^ e) E (by rw [← eT]; exact two_pos _)
    have eZ : ((mag * 2 ^ p : Nat) : Rat) / two D64 * (((mag * 2 ^ p : Nat) : Rat) / two D64) = ((mag * 2 ^ p * (mag * 2 ^ p) : Nat) : Rat) / (two D64 * two D64) := by
      rw [show ((mag * 2 ^ p * (mag * 2 ^ p) : Nat) : Rat) = ((mag * 2 ^ p : Nat) : Rat) * ((mag * 2 ^ p : Nat) : Rat) by push_cast; rfl]
      have hp := two_pos D64
      generalize two D64 = T at *
      generalize ((mag * 2 ^ p : Nat) : Rat) = K
      grind
    rw [eX, show (((mag * 2 ^ p : Nat) : Int) : Rat) = ((mag * 2 ^ p : Nat) : Rat) by rw [Rat.intCast_natCast], eZ]
    refine near_div ?_ ?_ ?_
    · have hp := two_pos D64
      exact Rat.mul_pos hp hp
    · have := n1
      generalize mag * 2 ^ p * (mag * 2 ^ p) = A at *
      generalize m * 2 ^ e * E = Y at *
      rw [show (2 : Nat) ^ 54 = 18014398509481984 from rfl] at this
      exact_mod_cast this
    · have := n2
      generalize mag * 2 ^ p * (mag * 2 ^ p) = A at *
      generalize m * 2 ^ e * E = Y at *
      rw [show (2 : Nat) ^ 54 = 18014398509481984 from rfl] at this
      exact_mod_cast this

end Go.Proofs.Ytbefoiikbbjjfaa.rootN

namespace Go.Proofs.Ytbefoiikbbjjfaa.quoN
open Go.ChangeShapes Go.WideShapes Go.ChangeAt Go.RowKit
open Go.ChangeMaps (open_string shut_string)
set_option linter.unusedVariables false
open Go Ieee Go.RowKit
open Go.Proofs.Ytbefoiikbbjjfaa.slc Go.Proofs.Ytbefoiikbbjjfaa.floats Go.Proofs.Ytbefoiikbbjjfaa.round Go.Proofs.Ytbefoiikbbjjfaa.values Go.Proofs.Ytbefoiikbbjjfaa.conv Go.Proofs.Ytbefoiikbbjjfaa.fWalk Go.Proofs.Ytbefoiikbbjjfaa.float2 Go.Proofs.Ytbefoiikbbjjfaa.float3 Go.Proofs.Ytbefoiikbbjjfaa.phase Go.Proofs.Ytbefoiikbbjjfaa.sine Go.Proofs.Ytbefoiikbbjjfaa.phasor Go.Proofs.Ytbefoiikbbjjfaa.listC Go.Proofs.Ytbefoiikbbjjfaa.sineIn Go.Proofs.Ytbefoiikbbjjfaa.polyNum Go.Proofs.Ytbefoiikbbjjfaa.polyW Go.Proofs.Ytbefoiikbbjjfaa.poly1 Go.Proofs.Ytbefoiikbbjjfaa.gPoly Go.Proofs.Ytbefoiikbbjjfaa.gNum Go.Proofs.Ytbefoiikbbjjfaa.rq Go.Proofs.Ytbefoiikbbjjfaa.root Go.Proofs.Ytbefoiikbbjjfaa.powW Go.Proofs.Ytbefoiikbbjjfaa.rootN

theorem quo_mag {m n : Nat} (hm : m ≠ 0) (hn : n ≠ 0) : n * 2 ^ 24 ≤ m * 2 ^ (25 + n.log2 - m.log2) := by
  have hmlog : 2 ^ m.log2 ≤ m := Nat.log2_self_le hm
  have hnlog : n < 2 ^ (n.log2 + 1) := Nat.lt_log2_self
  calc n * 2 ^ 24 ≤ 2 ^ (n.log2 + 1) * 2 ^ 24 := Nat.mul_le_mul_right _ (Nat.le_of_lt hnlog)
    _ = 2 ^ (n.log2 + 25) := by rw [← Nat.pow_add]
    _ ≤ 2 ^ (m.log2 + (25 + n.log2 - m.log2)) := Nat.pow_le_pow_right (by omega) (by omega)
    _ = 2 ^ m.log2 * 2 ^ (25 + n.log2 - m.log2) := Nat.pow_add _ _ _
    _ ≤ m * 2 ^ (25 + n.log2 - m.log2) := Nat.mul_le_mul_right _ hmlog
/-- Twice the quotient, with the bit that says whether something is left, against the exact one. -/
theorem quo_near {M n : Nat} (hn : n ≠ 0) (h : n * 2 ^ 24 ≤ M) : (2 * (M / n) + (M % n != 0).toNat) * n * 2 ^ 24 ≤ 2 * M * 2 ^ 24 + 2 * M ∧ 2 * M * 2 ^ 24 ≤ (2 * (M / n) + (M % n != 0).toNat) * n * 2 ^ 24 + 2 * M ∧ (2 * (M / n) + (M % n != 0).toNat) * n ≤ 4 * M := by
  have e := Nat.div_add_mod M n
  have l := Nat.mod_lt M (Nat.pos_of_ne_zero hn)
  rw [Nat.mul_comm] at e
  have e2 : (2 * (M / n) + (M % n != 0).toNat) * n = 2 * (M / n * n) + (M % n != 0).toNat * n := by rw [Nat.add_mul, Nat.mul_assoc]
  rw [e2]
  generalize M / n * n = q at *
  by_cases z : M % n = 0
  · have : (M % n != 0).toNat = 0 := by simp [z]
    rw [this, Nat.zero_mul]
    omega
  · have : (M % n != 0).toNat = 1 := by simp [z]
    rw [this, Nat.one_mul]
    omega
theorem near_div2 {u v P : Rat} (hP : 0 ≤ P) (h1 : v * 16777216 ≤ u * 16777216 + v) (h2 : u * 16777216 ≤ v * 16777216 + v) : nr (u * P) (v * P) (v * P / 16777216) := by
  have a := Rat.mul_le_mul_of_nonneg_right h1 hP
  have b := Rat.mul_le_mul_of_nonneg_right h2 hP
  unfold nr
  generalize e1 : u * P = U at *
  generalize e2 : v * P = W at *
  have a' : W * 16777216 ≤ U * 16777216 + W := by subst e1 e2; grind
  have b' : U * 16777216 ≤ W * 16777216 + W := by subst e1 e2; grind
  constructor <;> grind
theorem pos_read {f : Format} {x m e : Nat} (h0 : 0 < V f x) (vx : m * 2 ^ e = mv f (rg f x)) : m ≠ 0 ∧ sgn f x = false ∧ V f x = ((m * 2 ^ e : Nat) : Int) := by
  have hV : V f x = sg (sgn f x) (mv f (rg f x)) := rfl
  have hs : sgn f x = false := by
    cases hs : sgn f x with
    | false => rfl
    | true =>
      exfalso
      rw [hV, hs, ← vx] at h0
      simp only [sg, if_true] at h0
      omega
  have hm : m ≠ 0 := by
    intro q
    subst q
    rw [hV, hs, ← vx, Nat.zero_mul] at h0
    simp [sg] at h0
  exact ⟨hm, hs, by rw [hV, hs, ← vx]; rfl⟩
theorem quo32 {x y e : Nat} (hx : FinW single x) (hy : FinW single y) (x0 : 0 < V single x) (y0 : 0 < V single y) (he : e ≤ 90) (hb : V single x * 2 ≤ V single y * 2 ^ e) :
    ∃ r, floatBits .quo .f32 x y = some r ∧ Bs r e ∧ ∃ z : Rat, 0 ≤ z ∧ nr (r32 r) z (two e / two 22) ∧ nr (z * r32 y) (r32 x) (r32 x / 16777216) := by
  obtain ⟨m, i, ex, vx⟩ := read_fin single hx
  obtain ⟨n, j, ey, vy⟩ := read_fin single hy
  obtain ⟨hm, sx, vx'⟩ := pos_read x0 vx
  obtain ⟨hn, sy, vy'⟩ := pos_read y0 vy
  rw [vx', vy', gNum.pc] at hb
  have hb' : m * 2 ^ i * 2 ≤ n * 2 ^ j * 2 ^ e := by exact_mod_cast hb
  have hmo := quo_mag hm hn
  generalize hM : 25 + n.log2 - m.log2 = more at *
  have hq : single.div x y = some (single.nearest false (2 * ((m <<< more) / n) + ((m <<< more) % n != 0).toNat) (single.leastPlace + i - (single.leastPlace + j) - more - 1)) := by
    unfold Format.div
    rw [ex, ey, sx, sy]
    unfold Datum.quotient
    dsimp only
    rw [if_neg hn, show single.fractionBits + 2 = 25 from rfl, hM]
    rfl
  rw [Nat.shiftLeft_eq] at hq
  obtain ⟨n1, n2, n3⟩ := quo_near hn hmo
  generalize 2 * (m * 2 ^ more / n) + (m * 2 ^ more % n != 0).toNat = mag at *
  have hmag : mag * 2 ^ (i + 149) ≤ 2 ^ (149 + e) * 2 ^ (j + more + 1) := by
    refine Nat.le_of_mul_le_mul_right ?_ (Nat.pos_of_ne_zero hn)
    calc mag * 2 ^ (i + 149) * n = mag * n * 2 ^ i * 2 ^ 149 := by rw [Nat.pow_add]; generalize 2 ^ 149 = T; generalize 2 ^ i = I; grind
      _ ≤ 4 * (m * 2 ^ more) * 2 ^ i * 2 ^ 149 := Nat.mul_le_mul_right _ (Nat.mul_le_mul_right _ n3)
      _ = m * 2 ^ i * 2 * (2 * 2 ^ more * 2 ^ 149) := by generalize 2 ^ 149 = T; generalize 2 ^ i = I; generalize 2 ^ more = M; grind
      _ ≤ n * 2 ^ j * 2 ^ e * (2 * 2 ^ more * 2 ^ 149) := Nat.mul_le_mul_right _ hb'
      _ = 2 ^ (149 + e) * 2 ^ (j + more + 1) * n := by
        rw [Nat.pow_add, Nat.pow_add, Nat.pow_add]
        generalize 2 ^ 149 = T; generalize 2 ^ j = J; generalize 2 ^ more = M; generalize 2 ^ e = E
        grind
  have hh := (nearest_rnd single false mag (single.leastPlace + i - (single.leastPlace + j) - more - 1) (p := i + 149) (d := j + more + 1) (by rw [lp32]; omega) (hi := ps e) (ps_inf (by omega)) (by rw [mv_ps]; exact hmag)).1
  obtain ⟨b1, b2⟩ := near32 (e := e) hh (by
    rw [sg_abs]
    refine Nat.le_trans hmag (Nat.le_of_eq ?_)
    rw [← Nat.pow_add]
    congr 1
    omega) he
  refine ⟨_, hq, b1, _, ?_, b2, ?_⟩
  · rw [sg_false, Rat.div_def]
    exact Rat.mul_nonneg (by exact_mod_cast Nat.zero_le _) (Rat.le_of_lt (Rat.inv_pos.2 (Rat.mul_pos (two_pos _) (two_pos _))))
  · have hT := two_pos 149
    have hJ := two_pos j
    have hI := two_pos i
    have hMo := two_pos (more + 1)
    have k1 : 0 ≤ two i * (two 149 * two (more + 1))⁻¹ := Rat.mul_nonneg (Rat.le_of_lt hI) (Rat.le_of_lt (Rat.inv_pos.2 (Rat.mul_pos hT hMo)))
    have eW : ((2 * (m * 2 ^ more) : Nat) : Rat) = (m : Rat) * two (more + 1) := by
      unfold two
      rw [Nat.pow_succ]
      push_cast
      generalize (2 : Rat) ^ more = M
      grind
    have z := near_div2 (u := ((mag * n : Nat) : Rat)) (v := ((2 * (m * 2 ^ more) : Nat) : Rat)) k1 (by
      have := n2
      rw [show (2 : Nat) ^ 24 = 16777216 from rfl] at this
      generalize 2 * (m * 2 ^ more) = W at *
      generalize mag * n = U at *
      exact_mod_cast this) (by
      have := n1
      rw [show (2 : Nat) ^ 24 = 16777216 from rfl] at this
      generalize 2 * (m * 2 ^ more) = W at *
      generalize mag * n = U at *
      exact_mod_cast this)
    have eX : r32 x = ((2 * (m * 2 ^ more) : Nat) : Rat) * (two i * (two 149 * two (more + 1))⁻¹) := by
      rw [eW]
      unfold r32
      rw [vx', Rat.intCast_natCast, show ((m * 2 ^ i : Nat) : Rat) = (m : Rat) * two i by unfold two; push_cast; rfl]
      generalize two 149 = T at *
      generalize two i = I at *
      generalize two (more + 1) = M at *
      grind
    have eY : ((sg false (mag * 2 ^ (i + 149)) : Int) : Rat) / (two 149 * two (j + more + 1)) * r32 y = ((mag * n : Nat) : Rat) * (two i * (two 149 * two (more + 1))⁻¹) := by
      unfold r32
      rw [sg_false, vy', Rat.intCast_natCast, Rat.intCast_natCast, show ((n * 2 ^ j : Nat) : Rat) = (n : Rat) * two j by unfold two; push_cast; rfl, show ((mag * 2 ^ (i + 149) : Nat) : Rat) = (mag : Rat) * (two i * two 149) by rw [← two_add]; unfold two; push_cast; rfl, show ((mag * n : Nat) : Rat) = (mag : Rat) * (n : Rat) by push_cast; rfl, show j + more + 1 = j + (more + 1) by omega, two_add j]
      generalize two 149 = T at *
      generalize two i = I at *
      generalize two j = J at *
      generalize two (more + 1) = M at *
      grind
    rw [eX, eY]
    exact z

end Go.Proofs.Ytbefoiikbbjjfaa.quoN
