/- The load of small beams, exactly and in 64 bits. -/
import Derived.Test.YtbefoiikbbjjfaaRows
import Derived.Test.YtbefoiikbbjjfaaSlc
import Derived.Test.YtbefoiikbbjjfaaSmall
import Derived.Test.YtbefoiikbbjjfaaR8
import Derived.Test.YtbefoiikbbjjfaaSrc
import Derived.Test.YtbefoiikbbjjfaaFloatAll
import Derived.Test.YtbefoiikbbjjfaaFWalk
import Derived.Test.YtbefoiikbbjjfaaFinWalk
import Derived.Test.YtbefoiikbbjjfaaFlAll
import Derived.Test.YtbefoiikbbjjfaaPhasor
import Derived.Test.YtbefoiikbbjjfaaListC
import Derived.Test.YtbefoiikbbjjfaaSteerNum
import Derived.Test.YtbefoiikbbjjfaaSineIn
import Derived.Test.YtbefoiikbbjjfaaPolyAll
import Derived.Test.YtbefoiikbbjjfaaGAll
import Derived.Test.YtbefoiikbbjjfaaRoot
import Derived.Test.YtbefoiikbbjjfaaPowW
import Derived.Test.YtbefoiikbbjjfaaQuoAll
import Derived.Test.YtbefoiikbbjjfaaGap
import Derived.Test.YtbefoiikbbjjfaaPlanNum
import Derived.Test.YtbefoiikbbjjfaaLoadAll
import Derived.Test.YtbefoiikbbjjfaaPlanAll
import Derived.WalkKit
import Derived.ProofKit
import Derived.OpenShut
import Derived.ShutString
import Derived.ChangeOld
import Derived.Below
import Derived.Lib.Hide
import Derived.BigQuiet
import Derived.Deep.QuietTactic
import Derived.WalkLawsBesides
import Derived.Outline
import Derived.Deep.LoopGhost
import Derived.Laws.ComplexArith
namespace Go.Proofs.Ytbefoiikbbjjfaa.loadF
open Go.ChangeShapes Go.WideShapes Go.ChangeAt Go.RowKit
open Go.ChangeMaps (open_string shut_string)
set_option linter.unusedVariables false
open Go Ieee Go.RowKit
open Go.Proofs.Ytbefoiikbbjjfaa.planNum hiding Bd two sg
open Go.Proofs.Ytbefoiikbbjjfaa.slc Go.Proofs.Ytbefoiikbbjjfaa.small Go.Proofs.Ytbefoiikbbjjfaa.floats Go.Proofs.Ytbefoiikbbjjfaa.round Go.Proofs.Ytbefoiikbbjjfaa.values Go.Proofs.Ytbefoiikbbjjfaa.conv Go.Proofs.Ytbefoiikbbjjfaa.fWalk Go.Proofs.Ytbefoiikbbjjfaa.float2 Go.Proofs.Ytbefoiikbbjjfaa.float3 Go.Proofs.Ytbefoiikbbjjfaa.phase Go.Proofs.Ytbefoiikbbjjfaa.sine Go.Proofs.Ytbefoiikbbjjfaa.phasor Go.Proofs.Ytbefoiikbbjjfaa.listC Go.Proofs.Ytbefoiikbbjjfaa.sineIn Go.Proofs.Ytbefoiikbbjjfaa.polyNum Go.Proofs.Ytbefoiikbbjjfaa.polyW Go.Proofs.Ytbefoiikbbjjfaa.poly1 Go.Proofs.Ytbefoiikbbjjfaa.gPoly Go.Proofs.Ytbefoiikbbjjfaa.gNum Go.Proofs.Ytbefoiikbbjjfaa.rq Go.Proofs.Ytbefoiikbbjjfaa.root Go.Proofs.Ytbefoiikbbjjfaa.powW Go.Proofs.Ytbefoiikbbjjfaa.rootN Go.Proofs.Ytbefoiikbbjjfaa.quoN Go.Proofs.Ytbefoiikbbjjfaa.loadNum

theorem r64_lo {c : Nat} {a b : Int} (hb : 0 < b) (h : a * ((2 ^ D64 : Nat) : Int) ≤ V double c * b) : (a : Rat) / (b : Rat) ≤ r64 c := by
  have h' := Rat.intCast_le_intCast.2 h
  rw [Rat.intCast_mul, Rat.intCast_mul] at h'
  have e : (((2 ^ D64 : Nat) : Int) : Rat) = two D64 := rfl
  rw [e] at h'
  have hp := two_pos D64
  have hb' : (0 : Rat) < (b : Rat) := by exact_mod_cast hb
  have hi := Rat.le_of_lt (Rat.inv_pos.2 (Rat.mul_pos hp hb'))
  have h3 := Rat.mul_le_mul_of_nonneg_right h' hi
  unfold r64
  generalize two D64 = P at *
  generalize (b : Rat) = Q at *
  generalize (a : Rat) = S at *
  generalize (V double c : Rat) = T at *
  have e1 : S * P * (P * Q)⁻¹ = S / Q := by grind
  have e2 : T * Q * (P * Q)⁻¹ = T / P := by grind
  rwa [e1, e2] at h3
theorem quo_mag64 {m n : Nat} (hm : m ≠ 0) (hn : n ≠ 0) : n * 2 ^ 24 ≤ m * 2 ^ (54 + n.log2 - m.log2) := by
  have hmlog : 2 ^ m.log2 ≤ m := Nat.log2_self_le hm
  have hnlog : n < 2 ^ (n.log2 + 1) := Nat.lt_log2_self
  calc n * 2 ^ 24 ≤ 2 ^ (n.log2 + 1) * 2 ^ 24 := Nat.mul_le_mul_right _ (Nat.le_of_lt hnlog)
    _ = 2 ^ (n.log2 + 25) := by rw [← Nat.pow_add]
    _ ≤ 2 ^ (m.log2 + (54 + n.log2 - m.log2)) := Nat.pow_le_pow_right (by omega) (by omega)
    _ = 2 ^ m.log2 * 2 ^ (54 + n.log2 - m.log2) := Nat.pow_add _ _ _
    _ ≤ m * 2 ^ (54 + n.log2 - m.log2) := Nat.mul_le_mul_right _ hmlog
theorem quo64 {x y e : Nat} (hx : FinW double x) (hy : FinW double y) (x0 : 0 < V double x) (y0 : 0 < V double y) (he : e ≤ 90) (hb : V double x * 2 ≤ V double y * 2 ^ e) :
    ∃ r, floatBits .quo .f64 x y = some r ∧ Bd r (D64 + e) ∧ ∃ z : Rat, 0 ≤ z ∧ nr (r64 r) z (two e / two 50) ∧ nr (z * r64 y) (r64 x) (r64 x / 16777216) := by
  obtain ⟨m, i, ex, vx⟩ := read_fin double hx
  obtain ⟨n, j, ey, vy⟩ := read_fin double hy
  obtain ⟨hm, sx, vx'⟩ := pos_read x0 vx
  obtain ⟨hn, sy, vy'⟩ := pos_read y0 vy
  rw [vx', vy', gNum.pc] at hb
  have hb' : m * 2 ^ i * 2 ≤ n * 2 ^ j * 2 ^ e := by exact_mod_cast hb
  have hmo := quo_mag64 hm hn
  have hDD := D64_is
  generalize hM : 54 + n.log2 - m.log2 = more at *
  have hq : double.div x y = some (double.nearest false (2 * ((m <<< more) / n) + ((m <<< more) % n != 0).toNat) (double.leastPlace + i - (double.leastPlace + j) - more - 1)) := by
    unfold Format.div
    rw [ex, ey, sx, sy]
    unfold Datum.quotient
    dsimp only
    rw [if_neg hn, show double.fractionBits + 2 = 54 from rfl, hM]
    rfl
  rw [Nat.shiftLeft_eq] at hq
  obtain ⟨n1, n2, n3⟩ := quo_near hn hmo
  generalize 2 * (m * 2 ^ more / n) + (m * 2 ^ more % n != 0).toNat = mag at *
  have hmag : mag * 2 ^ (i + D64) ≤ 2 ^ (D64 + e) * 2 ^ (j + more + 1) := by
    refine Nat.le_of_mul_le_mul_right ?_ (Nat.pos_of_ne_zero hn)
    calc mag * 2 ^ (i + D64) * n = mag * n * 2 ^ i * 2 ^ D64 := by rw [Nat.pow_add]; generalize 2 ^ D64 = T; generalize 2 ^ i = I; grind
      _ ≤ 4 * (m * 2 ^ more) * 2 ^ i * 2 ^ D64 := Nat.mul_le_mul_right _ (Nat.mul_le_mul_right _ n3)
      _ = m * 2 ^ i * 2 * (2 * 2 ^ more * 2 ^ D64) := by generalize 2 ^ D64 = T; generalize 2 ^ i = I; generalize 2 ^ more = M; grind
      _ ≤ n * 2 ^ j * 2 ^ e * (2 * 2 ^ more * 2 ^ D64) := Nat.mul_le_mul_right _ hb'
      _ = 2 ^ (D64 + e) * 2 ^ (j + more + 1) * n := by
        rw [Nat.pow_add, Nat.pow_add, Nat.pow_add]
        generalize 2 ^ D64 = T; generalize 2 ^ j = J; generalize 2 ^ more = M; generalize 2 ^ e = E
        grind
  have hh := (nearest_rnd double false mag (double.leastPlace + i - (double.leastPlace + j) - more - 1) (p := i + D64) (d := j + more + 1) (by rw [lpD]; omega) (hi := pw (D64 + e)) (pw_inf (by omega)) (by rw [mv_pw (by omega)]; exact hmag)).1
  obtain ⟨b1, b2⟩ := near64 (e := e) hh (by
    rw [sg_abs]
    refine Nat.le_trans hmag (Nat.le_of_eq ?_)
    rw [← Nat.pow_add]
    congr 1
    omega) (by omega)
  refine ⟨_, hq, b1, _, ?_, b2, ?_⟩
  · rw [sg_false, Rat.div_def]
    exact Rat.mul_nonneg (by exact_mod_cast Nat.zero_le _) (Rat.le_of_lt (Rat.inv_pos.2 (Rat.mul_pos (two_pos _) (two_pos _))))
  · have hT := two_pos D64
    have hJ := two_pos j
    have hI := two_pos i
    have hMo := two_pos (more + 1)
    have k1 : 0 ≤ two i * (two D64 * two (more + 1))⁻¹ := Rat.mul_nonneg (Rat.le_of_lt hI) (Rat.le_of_lt (Rat.inv_pos.2 (Rat.mul_pos hT hMo)))
    have eW : ((2 * (m * 2 ^ more) : Nat) : Rat) = (m : Rat) * two (more + 1) := by
      unfold two
      rw [Nat.pow_succ]
      push_cast
      generalize (2 : Rat) ^ more = M
      grind
    have z := near_div2 (u := ((mag * n : Nat) : Rat)) (v := ((2 * (m * 2 ^ more) : Nat) : Rat)) k1 (by
      have := n2
      rw [show (2 : Nat) ^ 24 = 16777216 from rfl] at this
      generalize 2 * (m * 2 ^ more) = W at *
      generalize mag * n = U at *
      exact_mod_cast this) (by
      have := n1
      rw [show (2 : Nat) ^ 24 = 16777216 from rfl] at this
      generalize 2 * (m * 2 ^ more) = W at *
      generalize mag * n = U at *
      exact_mod_cast this)
    have eX : r64 x = ((2 * (m * 2 ^ more) : Nat) : Rat) * (two i * (two D64 * two (more + 1))⁻¹) := by
      rw [eW]
      unfold r64
      rw [vx', Rat.intCast_natCast, show ((m * 2 ^ i : Nat) : Rat) = (m : Rat) * two i by unfold two; push_cast; rfl]
      generalize two D64 = T at *
      generalize two i = I at *
      generalize two (more + 1) = M at *
      grind
    have eY : ((sg false (mag * 2 ^ (i + D64)) : Int) : Rat) / (two D64 * two (j + more + 1)) * r64 y = ((mag * n : Nat) : Rat) * (two i * (two D64 * two (more + 1))⁻¹) := by
      unfold r64
      rw [sg_false, vy', Rat.intCast_natCast, Rat.intCast_natCast, show ((n * 2 ^ j : Nat) : Rat) = (n : Rat) * two j by unfold two; push_cast; rfl, show ((mag * 2 ^ (i + D64) : Nat) : Rat) = (mag : Rat) * (two i * two D64) by rw [← two_add]; unfold two; push_cast; rfl, show ((mag * n : Nat) : Rat) = (mag : Rat) * (n : Rat) by push_cast; rfl, show j + more + 1 = j + (more + 1) by omega, two_add j]
      generalize two D64 = T at *
      generalize two i = I at *
      generalize two j = J at *
      generalize two (more + 1) = M at *
      grind
    rw [eX, eY]
    exact z
theorem r64_nat (m : Nat) (h : m ≤ 2 ^ 52) : S64 (floatOfInt .f64 (m : Int)) (m : Int) ∧ r64 (floatOfInt .f64 (m : Int)) = (m : Rat) := by
  obtain ⟨f, v⟩ := gap.i64_ok (m : Int) (by omega)
  refine ⟨⟨f, v⟩, ?_⟩
  unfold r64
  rw [v, cast_pow]
  have hp := two_pos D64
  have e : (((m : Nat) : Int) : Rat) = (m : Rat) := rfl
  rw [e]
  generalize two D64 = P at *
  grind
/-- The quotient of two integers from 1 on, in 64 bits. -/
theorem quo_nat {a b e : Nat} (ha : 1 ≤ a) (hb : 1 ≤ b) (ha2 : a ≤ 2 ^ 52) (hb2 : b ≤ 2 ^ 52) (he : e ≤ 10) (h : a * 2 ≤ b * 2 ^ e) :
    ∃ r, floatBits .quo .f64 (floatOfInt .f64 (a : Int)) (floatOfInt .f64 (b : Int)) = some r ∧ Bd r (D64 + e) ∧ nr (r64 r) ((a : Rat) / (b : Rat)) ((a : Rat) / (b : Rat) / 16777216 + two e / two 50) := by
  obtain ⟨⟨f1, v1⟩, q1⟩ := r64_nat a ha2
  obtain ⟨⟨f2, v2⟩, q2⟩ := r64_nat b hb2
  have hp := gap.pos64
  obtain ⟨r, h1, h2, z, z0, z1, z2⟩ := quo64 (e := e) f1 f2 (by rw [v1]; exact Int.mul_pos (by omega) hp) (by rw [v2]; exact Int.mul_pos (by omega) hp) (by omega) (by
    rw [v1, v2, gNum.pc, gNum.pc, Int.mul_right_comm _ _ (2 : Int), Int.mul_right_comm _ _ ((2 ^ e : Nat) : Int)]
    refine Int.mul_le_mul_of_nonneg_right ?_ (Int.natCast_nonneg _)
    exact_mod_cast h)
  refine ⟨r, h1, h2, ?_⟩
  rw [q1, q2] at z2
  have b0 : (0 : Rat) < (b : Rat) := by
    have : ((0 : Nat) : Rat) < ((b : Nat) : Rat) := by exact_mod_cast hb
    exact this
  have hbi : (0 : Rat) < (b : Rat)⁻¹ := Rat.inv_pos.2 b0
  have hz : nr z ((a : Rat) / (b : Rat)) ((a : Rat) / (b : Rat) / 16777216) := by
    unfold nr at *
    have e1 : z * (b : Rat) * (b : Rat)⁻¹ = z := by rw [Rat.mul_assoc, Rat.mul_inv_cancel _ (by grind)]; grind
    have c1 := Rat.mul_le_mul_of_nonneg_right z2.1 (Rat.le_of_lt hbi)
    have c2 := Rat.mul_le_mul_of_nonneg_right z2.2 (Rat.le_of_lt hbi)
    rw [Rat.div_def]
    generalize (b : Rat)⁻¹ = B at *
    generalize (b : Rat) = b' at *
    generalize (a : Rat) = a' at *
    constructor <;> grind
  have := nr_trans z1 hz
  refine nr_mono this ?_
  grind

/-! Sums of shares -/
/-- The sum of the first k shares. -/
def sh (bs : List Bm) : Nat → Rat
  | 0 => 0
  | k + 1 => sh bs k + (dn bs k : Rat) / (en bs k : Rat)
/-- The same in 64 bits. -/
def fs (bs : List Bm) : Nat → Nat
  | 0 => 0
  | k + 1 => bv .add (fs bs k) (bv .quo (floatOfInt .f64 (dn bs k : Int)) (floatOfInt .f64 (en bs k : Int)))
/-- A beam of a short job that comes often. -/
def Shb (bs : List Bm) (k : Nat) : Prop := 1 ≤ dn bs k ∧ dn bs k ≤ en bs k ∧ en bs k ≤ 23
theorem share_le {a b : Nat} (h : a ≤ b) (hb : 1 ≤ b) : (0 : Rat) ≤ (a : Rat) / (b : Rat) ∧ (a : Rat) / (b : Rat) ≤ 1 := by
  have b0 : (0 : Rat) < (b : Rat) := by
    have : ((0 : Nat) : Rat) < ((b : Nat) : Rat) := by exact_mod_cast hb
    exact this
  have hbi : (0 : Rat) < (b : Rat)⁻¹ := Rat.inv_pos.2 b0
  have ha : (a : Rat) ≤ (b : Rat) := by exact_mod_cast h
  have a0 : (0 : Rat) ≤ (a : Rat) := by exact_mod_cast Nat.zero_le _
  rw [Rat.div_def]
  have c := Rat.mul_le_mul_of_nonneg_right ha (Rat.le_of_lt hbi)
  rw [Rat.mul_inv_cancel _ (by grind)] at c
  exact ⟨Rat.mul_nonneg a0 (Rat.le_of_lt hbi), c⟩
theorem quo_share {bs : List Bm} {k : Nat} (h : Shb bs k) : floatBits .quo .f64 (floatOfInt .f64 (dn bs k : Int)) (floatOfInt .f64 (en bs k : Int)) = some (bv .quo (floatOfInt .f64 (dn bs k : Int)) (floatOfInt .f64 (en bs k : Int))) ∧ Bd (bv .quo (floatOfInt .f64 (dn bs k : Int)) (floatOfInt .f64 (en bs k : Int))) (D64 + 1) ∧ nr (r64 (bv .quo (floatOfInt .f64 (dn bs k : Int)) (floatOfInt .f64 (en bs k : Int)))) ((dn bs k : Rat) / (en bs k : Rat)) (1 / 16000000) := by
  obtain ⟨h1, h2, h3⟩ := h
  obtain ⟨r, q1, q2, q3⟩ := quo_nat (a := dn bs k) (b := en bs k) (e := 1) h1 (by omega) (by omega) (by omega) (by omega) (by omega)
  obtain ⟨q4, q5⟩ := bv_some q1
  rw [q5] at q4 ⊢
  refine ⟨q1, q2, nr_mono q3 ?_⟩
  have := (share_le h2 (by omega)).2
  have t1 : two 1 = 2 := by decide +kernel
  have t2 : two 50 = 1125899906842624 := by decide +kernel
  rw [t1, t2]
  generalize (dn bs k : Rat) / (en bs k : Rat) = q at *
  grind
theorem fs_ok {bs : List Bm} : ∀ k, k ≤ 4 → (∀ i, i < k → Shb bs i) → Bd (fs bs k) (D64 + (k + 1)) ∧ nr (r64 (fs bs k)) (sh bs k) ((k : Rat) * (1 / 10000000)) ∧ 0 ≤ sh bs k ∧ sh bs k ≤ (k : Rat)
  | 0, _, _ => by
    refine ⟨⟨F_zero, by unfold fs; rw [V_zero]; exact Nat.zero_le _⟩, ?_, Rat.le_refl, Rat.le_refl⟩
    have hz : r64 0 = 0 := by unfold r64; rw [V_zero]; grind
    unfold fs sh nr
    rw [hz]
    have e0 : ((0 : Nat) : Rat) = 0 := rfl
    rw [e0]
    constructor <;> grind
  | k + 1, hk, h => by
    obtain ⟨b1, n1, s0, s1⟩ := fs_ok k (by omega) fun i hi => h i (by omega)
    have hS := h k (by omega)
    obtain ⟨_, b2, n2⟩ := quo_share hS
    obtain ⟨_, b3, n3⟩ := add64 b1 (b2.mono (show D64 + 1 ≤ D64 + (k + 1) by omega)) (by omega)
    obtain ⟨l0, l1⟩ := share_le hS.2.1 (Nat.le_trans hS.1 hS.2.1)
    have hc : ((k + 1 : Nat) : Rat) = (k : Rat) + 1 := by push_cast; rfl
    have ht : two (k + 1 + 1) / two 50 ≤ 1 / 1000000000 := by
      have t2 : two 50 = 1125899906842624 := by decide +kernel
      rw [t2]
      have hk4 : k = 0 ∨ k = 1 ∨ k = 2 ∨ k = 3 := by omega
      rcases hk4 with rfl | rfl | rfl | rfl <;> decide +kernel
    unfold fs sh
    refine ⟨b3, ?_, ?_, ?_⟩
    · rw [hc]
      unfold nr at *
      generalize (dn bs k : Rat) / (en bs k : Rat) = q at *
      generalize (k : Rat) = K at *
      constructor <;> grind
    · grind
    · rw [hc]; grind
theorem ml_dvd_b (b e : Nat) (hb : 0 < b) : ml b e / b * b = ml b e := by rw [ml_b b e hb, ml_alt, Nat.mul_comm]
theorem ml_dvd_e (b e : Nat) (he : 0 < e) : ml b e / e * e = ml b e := by rw [ml_e b e he]; rfl
theorem ml_le (b e : Nat) : ml b e ≤ b * e := by
  unfold ml
  exact Nat.mul_le_mul_right _ (Nat.div_le_self _ _)
/-- What holds of the load of the first k beams. -/
theorem lds_ok {bs : List Bm} : ∀ k, k ≤ 4 → (∀ i, i < k → Shb bs i) → ∃ t b, lds bs k = some (t, b) ∧ 1 ≤ b ∧ b ≤ 23 ^ k ∧ (1 ≤ k → 1 ≤ t) ∧ sh bs k * (b : Rat) = (t : Rat)
  | 0, _, _ => ⟨0, 1, rfl, Nat.le_refl _, Nat.le_refl _, fun h => absurd h (by omega), by unfold sh; decide +kernel⟩
  | k + 1, hk, h => by
    obtain ⟨t, b, e1, b1, b2, t1, hs⟩ := lds_ok k (by omega) fun i hi => h i (by omega)
    obtain ⟨d1, d2, d3⟩ := h k (by omega)
    have hml : ml b (en bs k) ≤ 23 ^ (k + 1) := by
      rw [Nat.pow_succ]
      exact Nat.le_trans (ml_le _ _) (Nat.mul_le_mul b2 d3)
    have h4 : 23 ^ (k + 1) ≤ 23 ^ 4 := Nat.pow_le_pow_right (by omega) hk
    have hp := ml_pos b (en bs k) b1 (by omega)
    have hb := ml_dvd_b b (en bs k) b1
    have he := ml_dvd_e b (en bs k) (by omega)
    rw [lds_step e1, if_neg (by omega)]
    have hS : sh bs (k + 1) = sh bs k + (dn bs k : Rat) / (en bs k : Rat) := rfl
    rw [hS]
    have htp : tp t b (dn bs k) (en bs k) = ml b (en bs k) / b * t + ml b (en bs k) / en bs k * dn bs k := rfl
    have htp0 : 1 ≤ tp t b (dn bs k) (en bs k) := by
      rw [htp]
      have : 1 ≤ ml b (en bs k) / en bs k := Nat.div_pos (by
        have := Nat.pos_of_ne_zero (n := ml b (en bs k) / en bs k) (fun z => by rw [z] at he; omega)
        calc en bs k = 1 * en bs k := (Nat.one_mul _).symm
          _ ≤ ml b (en bs k) / en bs k * en bs k := Nat.mul_le_mul_right _ this
          _ = ml b (en bs k) := he) (by omega)
      have := Nat.mul_le_mul this d1
      omega
    have hg : 0 < Nat.gcd (tp t b (dn bs k) (en bs k)) (ml b (en bs k)) := Nat.gcd_pos_of_pos_right _ hp
    have g1 := Nat.div_mul_cancel (Nat.gcd_dvd_left (tp t b (dn bs k) (en bs k)) (ml b (en bs k)))
    have g2 := Nat.div_mul_cancel (Nat.gcd_dvd_right (tp t b (dn bs k) (en bs k)) (ml b (en bs k)))
    refine ⟨_, _, rfl, Nat.div_pos (Nat.le_of_dvd hp (Nat.gcd_dvd_right _ _)) hg, Nat.le_trans (Nat.div_le_self _ _) hml, fun _ => Nat.div_pos (Nat.le_of_dvd htp0 (Nat.gcd_dvd_left _ _)) hg, ?_⟩
    generalize tp t b (dn bs k) (en bs k) / Nat.gcd (tp t b (dn bs k) (en bs k)) (ml b (en bs k)) = T' at *
    generalize ml b (en bs k) / Nat.gcd (tp t b (dn bs k) (en bs k)) (ml b (en bs k)) = B' at *
    generalize Nat.gcd (tp t b (dn bs k) (en bs k)) (ml b (en bs k)) = g at *
    generalize tp t b (dn bs k) (en bs k) = TP at *
    generalize ml b (en bs k) / b = p at *
    generalize ml b (en bs k) / en bs k = q at *
    generalize ml b (en bs k) = M at *
    have c1 : (T' : Rat) * (g : Rat) = (TP : Rat) := by rw [← g1]; push_cast; rfl
    have c2 : (B' : Rat) * (g : Rat) = (M : Rat) := by rw [← g2]; push_cast; rfl
    have c3 : (p : Rat) * (b : Rat) = (M : Rat) := by rw [← hb]; push_cast; rfl
    have c4 : (q : Rat) * (en bs k : Rat) = (M : Rat) := by rw [← he]; push_cast; rfl
    have c5 : (TP : Rat) = (p : Rat) * (t : Rat) + (q : Rat) * (dn bs k : Rat) := by rw [htp]; push_cast; rfl
    have e0 : (0 : Rat) < (en bs k : Rat) := by
      have : ((0 : Nat) : Rat) < ((en bs k : Nat) : Rat) := by exact_mod_cast (show 0 < en bs k by omega)
      exact this
    have g0 : (0 : Rat) < (g : Rat) := by
      have : ((0 : Nat) : Rat) < ((g : Nat) : Rat) := by exact_mod_cast hg
      exact this
    have c6 : (dn bs k : Rat) / (en bs k : Rat) * (en bs k : Rat) = (dn bs k : Rat) := by grind
    generalize (dn bs k : Rat) / (en bs k : Rat) = x at *
    generalize (dn bs k : Rat) = d at *
    generalize (en bs k : Rat) = e at *
    generalize (T' : Rat) = t2 at *
    generalize (B' : Rat) = b2' at *
    generalize (TP : Rat) = tp2 at *
    generalize (M : Rat) = m2 at *
    generalize (p : Rat) = p2 at *
    generalize (q : Rat) = q2 at *
    generalize (t : Rat) = t3 at *
    generalize (b : Rat) = b3 at *
    generalize (g : Rat) = g2' at *
    generalize sh bs k = s at *
    have k1 : (s + x) * b2' * g2' = t2 * g2' := by
      have : (s + x) * (b2' * g2') = t2 * g2' := by
        rw [c2, c1, c5]
        have a1 : s * m2 = p2 * t3 := by rw [← c3, ← hs]; grind
        have a2 : x * m2 = q2 * d := by rw [← c4, ← c6]; grind
        grind
      grind
    have k2 : (s + x) * b2' * g2' * g2'⁻¹ = t2 * g2' * g2'⁻¹ := by rw [k1]
    have k3 : g2' * g2'⁻¹ = 1 := Rat.mul_inv_cancel _ (by grind)
    rw [Rat.mul_assoc, k3, Rat.mul_assoc t2, k3] at k2
    grind
/-- The load is told, and its quotient in 64 bits is near to the sum of the shares in 64 bits. -/
theorem load_ok {bs : List Bm} (ha : ab bs = true) (h1 : 1 ≤ bs.length) (h4 : bs.length ≤ 4) (h : ∀ i, i < bs.length → Shb bs i) : ∃ t b r : Nat, (loadC.LR bs) = ((t : Int), (b : Int), true) ∧ 1 ≤ t ∧ 1 ≤ b ∧ floatBits .quo .f64 (floatOfInt .f64 (t : Int)) (floatOfInt .f64 (b : Int)) = some r ∧ Bd r (D64 + 6) ∧ Bd (fs bs bs.length) (D64 + 6) ∧ nr (r64 r) (r64 (fs bs bs.length)) (9 / 10000000) := by
  obtain ⟨t, b, e1, b1, b2, t1, hs⟩ := lds_ok bs.length h4 h
  obtain ⟨f1, f2, f3, f5⟩ := fs_ok bs.length h4 h
  have hb : b ≤ 23 ^ 4 := Nat.le_trans b2 (Nat.pow_le_pow_right (by omega) h4)
  have b0 : (0 : Rat) < (b : Rat) := by
    have : ((0 : Nat) : Rat) < ((b : Nat) : Rat) := by exact_mod_cast b1
    exact this
  have hk : (bs.length : Rat) ≤ 4 := by
    have : ((bs.length : Nat) : Rat) ≤ ((4 : Nat) : Rat) := by exact_mod_cast h4
    exact this
  have hsh : sh bs bs.length = (t : Rat) / (b : Rat) := by
    rw [← hs, Rat.div_def, Rat.mul_assoc, Rat.mul_inv_cancel _ (by grind)]
    grind
  have ht : t ≤ 4 * b := by
    have : (t : Rat) ≤ (4 : Rat) * (b : Rat) := by
      rw [← hs]
      exact Rat.mul_le_mul_of_nonneg_right (Rat.le_trans f5 hk) (Rat.le_of_lt b0)
    exact_mod_cast this
  obtain ⟨r, q1, q2, q3⟩ := quo_nat (a := t) (b := b) (e := 3) (t1 h1) b1 (by omega) (by omega) (by omega) (by omega)
  refine ⟨t, b, r, ?_, t1 h1, b1, q1, q2.mono (by omega), f1.mono (by omega), ?_⟩
  · unfold loadC.LR ld
    rw [if_pos ha, e1]
  · rw [← hsh] at q3
    have t1 : two 3 = 8 := by decide +kernel
    have t2 : two 50 = 1125899906842624 := by decide +kernel
    rw [t1, t2] at q3
    unfold nr at *
    generalize (bs.length : Rat) = K at *
    generalize sh bs bs.length = S at *
    constructor <;> grind

end Go.Proofs.Ytbefoiikbbjjfaa.loadF
