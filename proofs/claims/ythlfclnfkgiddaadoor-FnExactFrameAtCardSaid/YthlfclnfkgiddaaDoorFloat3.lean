/- Integers as 64-bit numbers and back; what is left of a number when its whole part is taken away; quarters. -/
import Derived.Test.YthlfclnfkgiddaaDoorFloats
import Derived.Test.YthlfclnfkgiddaaDoorRound
import Derived.Test.YthlfclnfkgiddaaDoorValues
import Derived.Test.YthlfclnfkgiddaaDoorConv
import Derived.Test.YthlfclnfkgiddaaDoorFloat2
namespace Go.Proofs.YthlfclnfkgiddaaDoor.float3
set_option linter.unusedVariables false
open Go Ieee
open Go.Proofs.YthlfclnfkgiddaaDoor.floats Go.Proofs.YthlfclnfkgiddaaDoor.round Go.Proofs.YthlfclnfkgiddaaDoor.values Go.Proofs.YthlfclnfkgiddaaDoor.conv Go.Proofs.YthlfclnfkgiddaaDoor.float2

/-- A quarter, in least places. -/
def q64 : Nat := 2 ^ 1072
theorem q64_D : 2 ^ D64 = 4 * q64 := by decide +kernel
theorem q64_pos : 0 < q64 := by decide +kernel
theorem V_quarter : V double 4598175219545276416 = (q64 : Int) := by decide +kernel
theorem V_half : V double 4602678819172646912 = 2 * (q64 : Int) := by decide +kernel
theorem V_34 : V double 4604930618986332160 = 3 * (q64 : Int) := by decide +kernel
theorem V_one : V double 4607182418800017408 = 4 * (q64 : Int) := by decide +kernel
theorem V_zero : V double 0 = 0 := by decide +kernel
theorem F_quarter : FinW double 4598175219545276416 := by unfold FinW; decide +kernel
theorem F_half : FinW double 4602678819172646912 := by unfold FinW; decide +kernel
theorem F_34 : FinW double 4604930618986332160 := by unfold FinW; decide +kernel
theorem F_one : FinW double 4607182418800017408 := by unfold FinW; decide +kernel
theorem F_zero : FinW double 0 := by unfold FinW; decide +kernel
theorem V_52 : V double 4841369599423283200 = 4503599627370496 * (4 * (q64 : Int)) := by decide +kernel
theorem V_m52 : V double 14064741636278059008 = -(4503599627370496 * (4 * (q64 : Int))) := by decide +kernel
theorem F_52 : FinW double 4841369599423283200 := by unfold FinW; decide +kernel
theorem F_m52 : FinW double 14064741636278059008 := by unfold FinW; decide +kernel

theorem cut_zero (neg : Bool) (n drop : Nat) : Toward.zero.cut neg n drop = n / 2 ^ drop := by
  unfold Toward.cut
  simp only [Nat.shiftLeft_eq, Nat.one_mul, Bool.toNat_false, Nat.add_zero]
  by_cases h : drop ≤ n.log2 + 2
  · rw [Nat.min_eq_left h]
  · have hn : n < 2 ^ (n.log2 + 1) := Nat.lt_log2_self
    rw [Nat.min_eq_right (by omega), Nat.div_eq_of_lt (Nat.lt_of_lt_of_le hn (Nat.pow_le_pow_right (by omega) (by omega))), Nat.div_eq_of_lt (Nat.lt_of_lt_of_le hn (Nat.pow_le_pow_right (by omega) (by omega)))]

/-- A finite number cut to an integer. -/
theorem toInt_fin {x : Nat} (h : FinW double x) : ∃ q : Nat, (double.read x).toInt .zero = some (sg (sgn double x) q) ∧ q * (4 * q64) ≤ mv double (rg double x) ∧ mv double (rg double x) < (q + 1) * (4 * q64) := by
  obtain ⟨m, e, ex, vx⟩ := read_fin double h
  refine ⟨(m <<< (double.leastPlace + e : Int).toNat) / 2 ^ (-(double.leastPlace + e : Int)).toNat, ?_, ?_⟩
  · unfold Datum.toInt Datum.integral
    rw [ex]
    simp only [cut_zero]
    rw [signed_sg, Nat.pow_zero, Nat.mul_one]
  · rw [← vx, ← q64_D, Nat.shiftLeft_eq]
    rcases Nat.le_total D64 e with he | he
    · obtain ⟨a, rfl⟩ := Nat.exists_eq_add_of_le he
      rw [show (double.leastPlace + (D64 + a : Nat) : Int).toNat = a by rw [lpD]; omega, show (-(double.leastPlace + (D64 + a : Nat) : Int)).toNat = 0 by rw [lpD]; omega, Nat.pow_zero, Nat.div_one, Nat.pow_add]
      have hp := Nat.two_pow_pos D64
      generalize 2 ^ D64 = P at *
      generalize 2 ^ a = Q at *
      rw [Nat.mul_assoc, Nat.mul_comm Q P, Nat.add_mul, Nat.mul_assoc m Q P, Nat.mul_comm Q P]
      omega
    · obtain ⟨a, ha⟩ := Nat.exists_eq_add_of_le he
      rw [show (double.leastPlace + (e : Nat) : Int).toNat = 0 by rw [lpD]; omega, show (-(double.leastPlace + (e : Nat) : Int)).toNat = a by rw [lpD]; omega, Nat.pow_zero, Nat.mul_one, ha, Nat.pow_add]
      have hp := Nat.two_pow_pos e
      have ha := Nat.two_pow_pos a
      generalize 2 ^ e = P at *
      generalize 2 ^ a = Q at *
      have h1 : m / Q * Q ≤ m := Nat.div_mul_le_self _ _
      have h2 : m < (m / Q + 1) * Q := by
        have := Nat.div_add_mod m Q
        have := Nat.mod_lt m ha
        rw [Nat.add_mul, Nat.mul_comm (m / Q)]
        omega
      have h3 := Nat.mul_le_mul_right P h1
      have h4 := Nat.mul_lt_mul_of_pos_right h2 hp
      rw [Nat.mul_assoc, Nat.mul_comm Q P] at h3 h4
      exact ⟨h3, h4⟩

theorem mv_block {L K : Nat} (h1 : 2 ^ 52 ≤ K) (h2 : K < 2 * 2 ^ 52) : mv double (L * 2 ^ 52 + K) = K * 2 ^ L := by
  unfold mv
  rw [bi_pow]
  have hp : 0 < 2 ^ 52 := Nat.two_pow_pos _
  generalize 2 ^ 52 = B at *
  have hd : (L * B + K) / B = L + 1 := by
    rw [Nat.add_comm, Nat.add_mul_div_right _ _ hp]
    have : K / B = 1 := Nat.div_eq_of_lt_le (by omega) (by omega)
    omega
  have hm : (L * B + K) % B = K - B := by
    rw [Nat.add_comm, Nat.add_mul_mod_self_right, Nat.mod_eq_sub_mod h1, Nat.mod_eq_of_lt (by omega)]
  rw [if_neg (by omega), hd, hm, Nat.add_sub_cancel, ← Nat.add_sub_assoc h1, Nat.add_sub_cancel_left]

/-- An integer of few digits as a number: exactly. -/
theorem float_int (neg : Bool) (n : Nat) (h : n ≤ 2 ^ 52) : FinW double (double.nearest neg n 0) ∧ V double (double.nearest neg n 0) = sg neg (n * (4 * q64)) := by
  have hh := nearest_rnd double neg n 0 (p := D64) (d := 0) (hi := pw (52 + D64)) (by rw [lpD]; omega) (pw_inf (by rw [D64_is]; omega)) (by
    rw [mv_pw (by omega), Nat.pow_zero, Nat.mul_one, Nat.pow_add]
    exact Nat.mul_le_mul_right _ h)
  refine ⟨hh.1.fin, ?_⟩
  by_cases hn : n = 0
  · subst hn
    rw [nearest_zero, V_word double neg (by rw [sw_pow]; decide), mv_zero, Nat.zero_mul]
  · obtain ⟨L, K, eq, up, down, top, low⟩ := rung_facts double neg (mag := n) (place := 0) hn (p := D64) (d := 0) (by rw [lpD]; omega)
    simp only [Nat.pow_zero, Nat.mul_one] at up down top low
    rw [bi_pow] at eq top low
    have hLD : L ≤ D64 := by
      rcases Nat.lt_or_ge D64 L with hgt | hle
      · exfalso
        have h1 := low (by omega)
        obtain ⟨x, rfl⟩ := Nat.exists_eq_add_of_lt hgt
        rw [show D64 + x + 1 = (x + 1) + D64 by omega, Nat.pow_add, ← Nat.mul_assoc] at h1
        have h2 := Nat.le_of_mul_le_mul_right h1 (Nat.two_pow_pos D64)
        have h3 : 2 ^ 52 * 2 ≤ 2 ^ 52 * 2 ^ (x + 1) := Nat.mul_le_mul_left _ (by rw [Nat.pow_succ]; have := Nat.two_pow_pos x; omega)
        omega
      · exact hle
    obtain ⟨y, hy⟩ := Nat.exists_eq_add_of_le hLD
    have hnum : n * 2 ^ D64 = n * 2 ^ y * 2 ^ L := by rw [hy, Nat.add_comm, Nat.pow_add, Nat.mul_assoc]
    have hK : K = n * 2 ^ y := Nat.le_antisymm (up _ (Nat.le_of_eq hnum)) (down _ (Nat.le_of_eq hnum.symm))
    have hKtop : K < 2 * 2 ^ 52 := by
      rw [hnum, ← hK] at top
      exact Nat.lt_of_mul_lt_mul_right top
    have hL0 : 0 < L := by
      rcases Nat.eq_zero_or_pos L with h0 | h0
      · exfalso
        subst h0
        have : y = D64 := by omega
        subst this
        have h5 : 2 ^ 53 ≤ 2 ^ D64 := Nat.pow_le_pow_right (by omega) (by rw [D64_is]; omega)
        have h6 : 2 ^ D64 ≤ n * 2 ^ D64 := Nat.le_mul_of_pos_left _ (Nat.pos_of_ne_zero hn)
        omega
      · exact h0
    have hKlow : 2 ^ 52 ≤ K := by
      have := low hL0
      rw [hnum, ← hK] at this
      exact Nat.le_of_mul_le_mul_right this (Nat.two_pow_pos L)
    obtain ⟨r, hr, er⟩ := hh.2
    have hrr : r = rung double neg n 0 := by
      rw [nearest_rung double neg 0 hn] at er
      have e1 := congrArg (rg double) er
      have hsw := inf_lt_sw double
      have hi1 : pw (52 + D64) < double.infRung := pw_inf (by rw [D64_is]; decide)
      have hri : r < double.infRung := Nat.lt_of_le_of_lt hr hi1
      rw [rg_word double neg (Nat.lt_of_le_of_lt (Nat.min_le_right _ _) hsw), rg_word double neg (Nat.lt_trans hri hsw)] at e1
      rcases Nat.le_total (rung double neg n 0) double.infRung with h' | h'
      · rw [Nat.min_eq_left h'] at e1
        exact e1.symm
      · rw [Nat.min_eq_right h'] at e1
        exact absurd e1 (Nat.ne_of_gt hri)
    have hi1 : pw (52 + D64) < double.infRung := pw_inf (by rw [D64_is]; decide)
    have hrs : r < double.signWeight := Nat.lt_trans (Nat.lt_of_le_of_lt hr hi1) (inf_lt_sw double)
    rw [er, V_word double neg hrs, hrr, eq]
    have hmv : mv double (L * 2 ^ 52 + K) = n * (4 * q64) := by rw [mv_block hKlow hKtop, hK, ← hnum, q64_D]
    rw [hmv]

end Go.Proofs.YthlfclnfkgiddaaDoor.float3
