/- Bounds by powers of 2 through 64-bit operations; integers as 64-bit numbers and back. -/
/- Integers as 64-bit numbers and back; what is left of a number when its whole part is taken away; quarters. -/
/- What is left of a number when its whole part is taken away; a number less 0; quarters; bounds of a sine. -/
/- The sine of at most a quarter of a turn, by the program and by the model. -/
import Derived.Test.YtbefoiikbbjjfaaFloatAll
import Derived.Test.YtbefoiikbbjjfaaRows
import Derived.Test.YtbefoiikbbjjfaaFWalk
import Derived.WalkKit
import Derived.ProofKit
import Derived.OpenShut
import Derived.ShutString
import Derived.ChangeOld
import Derived.Below
import Derived.Lib.Hide
import Derived.BigQuiet
import Derived.Deep.QuietTactic
import Derived.WalkLawsBesides
import Derived.Outline
import Derived.Deep.LoopGhost
namespace Go.Proofs.Ytbefoiikbbjjfaa.float2
set_option linter.unusedVariables false
open Go Ieee
open Go.Proofs.Ytbefoiikbbjjfaa.floats Go.Proofs.Ytbefoiikbbjjfaa.round Go.Proofs.Ytbefoiikbbjjfaa.values Go.Proofs.Ytbefoiikbbjjfaa.conv

theorem bi_pow : double.binade = 2 ^ 52 := by decide +kernel
theorem inf_pow : double.infRung = 2047 * 2 ^ 52 := by decide +kernel
theorem sw_pow : double.signWeight = 2048 * 2 ^ 52 := by decide +kernel

/-- How many digits the least place stands behind 1. -/
def D64 : Nat := 1074
theorem D64_is : D64 = 1074 := rfl
theorem lpD : double.leastPlace = -(D64 : Int) := by decide +kernel

/-- A power of 2 as a rung. -/
def pw (e : Nat) : Nat := (e - 51) * 2 ^ 52
theorem mv_pw {e : Nat} (h : 52 ≤ e) : mv double (pw e) = 2 ^ e := by
  unfold mv pw
  rw [bi_pow]
  have hp : 0 < 2 ^ 52 := Nat.two_pow_pos _
  have h1 : ¬ (e - 51) * 2 ^ 52 < 2 ^ 52 := by
    have := Nat.le_mul_of_pos_left (2 ^ 52) (show 0 < e - 51 by omega)
    omega
  rw [if_neg h1, Nat.mul_mod_left, Nat.mul_div_cancel _ hp, Nat.add_zero, ← Nat.pow_add]
  congr 1
  omega
theorem pw_inf {e : Nat} (h : e ≤ 2097) : pw e < double.infRung := by
  unfold pw
  rw [inf_pow]
  exact Nat.mul_lt_mul_of_pos_right (by omega) (Nat.two_pow_pos _)

/-- x is finite, at most 2 ^ e least places. -/
def Bd (x e : Nat) : Prop := FinW double x ∧ (V double x).natAbs ≤ 2 ^ e
theorem Bd.mono {x a b : Nat} (h : Bd x a) (hab : a ≤ b) : Bd x b := ⟨h.1, Nat.le_trans h.2 (Nat.pow_le_pow_right (by omega) hab)⟩

theorem V_pw (neg : Bool) {e : Nat} (h : 52 ≤ e) (h2 : e ≤ 2097) : V double (double.word neg (pw e)) = sg neg (2 ^ e) ∧ FinW double (double.word neg (pw e)) := by
  have h3 := pw_inf h2
  have h4 := inf_lt_sw double
  refine ⟨by rw [V_word double neg (by omega), mv_pw h], ?_⟩
  unfold FinW
  rw [rg_word double neg (by omega)]
  exact h3

theorem rnd_bd {num : Int} {d r e : Nat} (h : Rnd double num d r) (h1 : 52 ≤ e) (h2 : e ≤ 2097) (hb : num.natAbs ≤ 2 ^ e * 2 ^ d) : Bd r e := by
  obtain ⟨v1, f1⟩ := V_pw false h1 h2
  obtain ⟨v2, f2⟩ := V_pw true h1 h2
  have a := h.le _ f1
  have b := h.ge _ f2
  rw [v1] at a
  rw [v2] at b
  have hcs : (2 : Int) ^ d = ((2 ^ d : Nat) : Int) := by simp
  rw [hcs] at a b
  rw [sg_mul] at a b
  refine ⟨h.fin, ?_⟩
  generalize 2 ^ e * 2 ^ d = B at *
  generalize 2 ^ e = E at *
  simp only [sg, Bool.false_eq_true, if_false, if_true] at a b
  have a' := a (by omega)
  have b' := b (by omega)
  omega

theorem rnd_exact {f : Format} {num : Int} {d r c : Nat} (h : Rnd f num d r) (hc : FinW f c) (e : V f c * 2 ^ d = num) : V f r = V f c := by
  have h1 := h.le c hc (by rw [e]; exact Int.le_refl _)
  have h2 := h.ge c hc (by rw [e]; exact Int.le_refl _)
  omega

theorem bd_mul {x y a b c : Nat} (hx : Bd x a) (hy : Bd y b) (hc : a + b ≤ c + D64) (h1 : 52 ≤ c) (h2 : c ≤ 2097) :
    ∃ r, floatBits .mul .f64 x y = some r ∧ Bd r c ∧ Rnd double (V double x * V double y) D64 r := by
  have hb : (V double x * V double y).natAbs ≤ 2 ^ c * 2 ^ D64 := by
    rw [Int.natAbs_mul, ← Nat.pow_add]
    refine Nat.le_trans (Nat.mul_le_mul hx.2 hy.2) ?_
    rw [← Nat.pow_add]
    exact Nat.pow_le_pow_right (by omega) hc
  obtain ⟨r, hr, hrr, _⟩ := mul_rnd double (D := D64) lpD hx.1 hy.1 (pw_inf h2) (by rw [mv_pw h1]; exact hb)
  exact ⟨r, hr, rnd_bd hrr h1 h2 hb, hrr⟩

theorem pow_succ' (e : Nat) : 2 ^ (e + 1) = 2 ^ e + 2 ^ e := by rw [Nat.pow_succ]; omega
theorem bd_sub {x y a : Nat} (hx : Bd x a) (hy : Bd y a) (h1 : 52 ≤ a + 1) (h2 : a + 1 ≤ 2097) :
    ∃ r, floatBits .sub .f64 x y = some r ∧ Bd r (a + 1) ∧ Rnd double (V double x - V double y) 0 r := by
  have hb : (V double x - V double y).natAbs ≤ 2 ^ (a + 1) := by
    have := hx.2
    have := hy.2
    rw [pow_succ']
    omega
  obtain ⟨r, hr, hrr⟩ := sub_rnd double hx.1 hy.1 (pw_inf h2) (by rw [mv_pw h1]; exact hb)
  exact ⟨r, hr, rnd_bd hrr h1 h2 (by rw [Nat.pow_zero, Nat.mul_one]; exact hb), hrr⟩

/-- A QUOTIENT by something that is at least 1. -/
theorem bd_quo {x y a : Nat} (hx : Bd x a) (hy : FinW double y) (hy1 : 2 ^ D64 ≤ (V double y).natAbs) (h1 : 52 ≤ a + 1) (h2 : a + 1 ≤ 2097) :
    ∃ r, floatBits .quo .f64 x y = some r ∧ Bd r (a + 1) := by
  obtain ⟨m, i, ex, vx⟩ := read_fin double hx.1
  obtain ⟨n, j, ey, vy⟩ := read_fin double hy
  have hxa := hx.2
  rw [V_read vx, sg_abs] at hxa
  rw [V_read vy, sg_abs] at hy1
  have hn : n ≠ 0 := by
    rintro rfl
    have := Nat.two_pow_pos D64
    omega
  let more := 54 + n.log2 - m.log2
  have hq : double.div x y = some (double.nearest (sgn double x ^^ sgn double y) (2 * ((m <<< more) / n) + ((m <<< more) % n != 0).toNat) (double.leastPlace + i - (double.leastPlace + j) - more - 1)) := by
    unfold Format.div
    rw [ex, ey]
    unfold Datum.quotient
    dsimp only
    rw [if_neg hn]
    rfl
  have hmag : (2 * ((m <<< more) / n) + ((m <<< more) % n != 0).toNat) * 2 ^ (i + D64) ≤ 2 ^ (a + 1) * 2 ^ (j + more + 1) := by
    by_cases hm : m = 0
    · subst hm
      simp
    · rw [Nat.shiftLeft_eq]
      have hmlog : 2 ^ m.log2 ≤ m := Nat.log2_self_le hm
      have hnlog : n < 2 ^ (n.log2 + 1) := Nat.lt_log2_self
      have hge : n ≤ m * 2 ^ more := by
        refine Nat.le_trans (Nat.le_of_lt hnlog) ?_
        refine Nat.le_trans ?_ (Nat.mul_le_mul_right _ hmlog)
        rw [← Nat.pow_add]
        exact Nat.pow_le_pow_right (by omega) (by show _ ≤ m.log2 + (54 + n.log2 - m.log2); omega)
      have hq1 : 1 ≤ m * 2 ^ more / n := (Nat.one_le_div_iff (Nat.pos_of_ne_zero hn)).2 hge
      have hqn : m * 2 ^ more / n * n ≤ m * 2 ^ more := Nat.div_mul_le_self _ _
      have hbit : (m * 2 ^ more % n != 0).toNat ≤ 1 := by cases (m * 2 ^ more % n != 0) <;> simp
      generalize m * 2 ^ more / n = q at *
      generalize (m * 2 ^ more % n != 0).toNat = b at *
      have h3 : 2 * q + b ≤ 4 * q := by omega
      refine Nat.le_of_mul_le_mul_right ?_ (Nat.pos_of_ne_zero hn)
      refine Nat.le_trans (Nat.mul_le_mul_right _ (Nat.mul_le_mul_right _ h3)) ?_
      have e1 : 4 * q * 2 ^ (i + D64) * n = 4 * 2 ^ (i + D64) * (q * n) := by
        generalize 2 ^ (i + D64) = P
        ac_rfl
      rw [e1]
      refine Nat.le_trans (Nat.mul_le_mul_left _ hqn) ?_
      have e2 : 4 * 2 ^ (i + D64) * (m * 2 ^ more) = m * 2 ^ i * (2 ^ D64 * (4 * 2 ^ more)) := by
        rw [Nat.pow_add]
        generalize 2 ^ i = I
        generalize 2 ^ D64 = P
        generalize 2 ^ more = M
        ac_rfl
      have e3 : 2 ^ (a + 1) * 2 ^ (j + more + 1) * n = 2 ^ a * (n * 2 ^ j * (4 * 2 ^ more)) := by
        rw [Nat.pow_add, Nat.pow_add, Nat.pow_add, show (4 : Nat) = 2 ^ 1 * 2 ^ 1 from rfl]
        generalize 2 ^ j = J
        generalize 2 ^ a = Q
        generalize 2 ^ more = M
        ac_rfl
      rw [e2, e3]
      exact Nat.mul_le_mul hxa (Nat.mul_le_mul_right _ hy1)
  have hh := nearest_rnd double (sgn double x ^^ sgn double y) (2 * ((m <<< more) / n) + ((m <<< more) % n != 0).toNat) (double.leastPlace + i - (double.leastPlace + j) - more - 1) (p := i + D64) (d := j + more + 1) (by rw [lpD]; omega) (pw_inf h2) (by rw [mv_pw h1]; exact hmag)
  exact ⟨_, hq, rnd_bd hh.1 h1 h2 (by rw [sg_abs]; exact hmag)⟩

end Go.Proofs.Ytbefoiikbbjjfaa.float2

namespace Go.Proofs.Ytbefoiikbbjjfaa.float3
set_option linter.unusedVariables false
open Go Ieee
open Go.Proofs.Ytbefoiikbbjjfaa.floats Go.Proofs.Ytbefoiikbbjjfaa.round Go.Proofs.Ytbefoiikbbjjfaa.values Go.Proofs.Ytbefoiikbbjjfaa.conv Go.Proofs.Ytbefoiikbbjjfaa.float2

/-- A quarter, in least places. -/
def q64 : Nat := 2 ^ 1072
theorem q64_D : 2 ^ D64 = 4 * q64 := by decide +kernel
theorem q64_pos : 0 < q64 := by decide +kernel
theorem V_quarter : V double 4598175219545276416 = (q64 : Int) := by decide +kernel
theorem V_half : V double 4602678819172646912 = 2 * (q64 : Int) := by decide +kernel
theorem V_34 : V double 4604930618986332160 = 3 * (q64 : Int) := by decide +kernel
theorem V_one : V double 4607182418800017408 = 4 * (q64 : Int) := by decide +kernel
theorem V_zero : V double 0 = 0 := by decide +kernel
theorem F_quarter : FinW double 4598175219545276416 := by unfold FinW; decide +kernel
theorem F_half : FinW double 4602678819172646912 := by unfold FinW; decide +kernel
theorem F_34 : FinW double 4604930618986332160 := by unfold FinW; decide +kernel
theorem F_one : FinW double 4607182418800017408 := by unfold FinW; decide +kernel
theorem F_zero : FinW double 0 := by unfold FinW; decide +kernel
theorem V_52 : V double 4841369599423283200 = 4503599627370496 * (4 * (q64 : Int)) := by decide +kernel
theorem V_m52 : V double 14064741636278059008 = -(4503599627370496 * (4 * (q64 : Int))) := by decide +kernel
theorem F_52 : FinW double 4841369599423283200 := by unfold FinW; decide +kernel
theorem F_m52 : FinW double 14064741636278059008 := by unfold FinW; decide +kernel

theorem cut_zero (neg : Bool) (n drop : Nat) : Toward.zero.cut neg n drop = n / 2 ^ drop := by
  unfold Toward.cut
  simp only [Nat.shiftLeft_eq, Nat.one_mul, Bool.toNat_false, Nat.add_zero]
  by_cases h : drop ≤ n.log2 + 2
  · rw [Nat.min_eq_left h]
  · have hn : n < 2 ^ (n.log2 + 1) := Nat.lt_log2_self
    rw [Nat.min_eq_right (by omega), Nat.div_eq_of_lt (Nat.lt_of_lt_of_le hn (Nat.pow_le_pow_right (by omega) (by omega))), Nat.div_eq_of_lt (Nat.lt_of_lt_of_le hn (Nat.pow_le_pow_right (by omega) (by omega)))]

/-- A finite number cut to an integer. -/
theorem toInt_fin {x : Nat} (h : FinW double x) : ∃ q : Nat, (double.read x).toInt .zero = some (sg (sgn double x) q) ∧ q * (4 * q64) ≤ mv double (rg double x) ∧ mv double (rg double x) < (q + 1) * (4 * q64) := by
  obtain ⟨m, e, ex, vx⟩ := read_fin double h
  refine ⟨(m <<< (double.leastPlace + e : Int).toNat) / 2 ^ (-(double.leastPlace + e : Int)).toNat, ?_, ?_⟩
  · unfold Datum.toInt Datum.integral
    rw [ex]
    simp only [cut_zero]
    rw [signed_sg, Nat.pow_zero, Nat.mul_one]
  · rw [← vx, ← q64_D, Nat.shiftLeft_eq]
    rcases Nat.le_total D64 e with he | he
    · obtain ⟨a, rfl⟩ := Nat.exists_eq_add_of_le he
      rw [show (double.leastPlace + (D64 + a : Nat) : Int).toNat = a by rw [lpD]; omega, show (-(double.leastPlace + (D64 + a : Nat) : Int)).toNat = 0 by rw [lpD]; omega, Nat.pow_zero, Nat.div_one, Nat.pow_add]
      have hp := Nat.two_pow_pos D64
      generalize 2 ^ D64 = P at *
      generalize 2 ^ a = Q at *
      rw [Nat.mul_assoc, Nat.mul_comm Q P, Nat.add_mul, Nat.mul_assoc m Q P, Nat.mul_comm Q P]
      omega
    · obtain ⟨a, ha⟩ := Nat.exists_eq_add_of_le he
      rw [show (double.leastPlace + (e : Nat) : Int).toNat = 0 by rw [lpD]; omega, show (-(double.leastPlace + (e : Nat) : Int)).toNat = a by rw [lpD]; omega, Nat.pow_zero, Nat.mul_one, ha, Nat.pow_add]
      have hp := Nat.two_pow_pos e
      have ha := Nat.two_pow_pos a
      generalize 2 ^ e = P at *
      generalize 2 ^ a = Q at *
      have h1 : m / Q * Q ≤ m := Nat.div_mul_le_self _ _
      have h2 : m < (m / Q + 1) * Q := by
        have := Nat.div_add_mod m Q
        have := Nat.mod_lt m ha
        rw [Nat.add_mul, Nat.mul_comm (m / Q)]
        omega
      have h3 := Nat.mul_le_mul_right P h1
      have h4 := Nat.mul_lt_mul_of_pos_right h2 hp
      rw [Nat.mul_assoc, Nat.mul_comm Q P] at h3 h4
      exact ⟨h3, h4⟩

theorem mv_block {L K : Nat} (h1 : 2 ^ 52 ≤ K) (h2 : K < 2 * 2 ^ 52) : mv double (L * 2 ^ 52 + K) = K * 2 ^ L := by
  unfold mv
  rw [bi_pow]
  have hp : 0 < 2 ^ 52 := Nat.two_pow_pos _
  generalize 2 ^ 52 = B at *
  have hd : (L * B + K) / B = L + 1 := by
    rw [Nat.add_comm, Nat.add_mul_div_right _ _ hp]
    have : K / B = 1 := Nat.div_eq_of_lt_le (by omega) (by omega)
    omega
  have hm : (L * B + K) % B = K - B := by
    rw [Nat.add_comm, Nat.add_mul_mod_self_right, Nat.mod_eq_sub_mod h1, Nat.mod_eq_of_lt (by omega)]
  rw [if_neg (by omega), hd, hm, Nat.add_sub_cancel, ← Nat.add_sub_assoc h1, Nat.add_sub_cancel_left]

/-- An integer of few digits as a number: exactly. -/
theorem float_int (neg : Bool) (n : Nat) (h : n ≤ 2 ^ 52) : FinW double (double.nearest neg n 0) ∧ V double (double.nearest neg n 0) = sg neg (n * (4 * q64)) := by
  have hh := nearest_rnd double neg n 0 (p := D64) (d := 0) (hi := pw (52 + D64)) (by rw [lpD]; omega) (pw_inf (by rw [D64_is]; omega)) (by
    rw [mv_pw (by omega), Nat.pow_zero, Nat.mul_one, Nat.pow_add]
    exact Nat.mul_le_mul_right _ h)
  refine ⟨hh.1.fin, ?_⟩
  by_cases hn : n = 0
  · subst hn
    rw [nearest_zero, V_word double neg (by rw [sw_pow]; decide), mv_zero, Nat.zero_mul]
  · obtain ⟨L, K, eq, up, down, top, low⟩ := rung_facts double neg (mag := n) (place := 0) hn (p := D64) (d := 0) (by rw [lpD]; omega)
    simp only [Nat.pow_zero, Nat.mul_one] at up down top low
    rw [bi_pow] at eq top low
    have hLD : L ≤ D64 := by
      rcases Nat.lt_or_ge D64 L with hgt | hle
      · exfalso
        have h1 := low (by omega)
        obtain ⟨x, rfl⟩ := Nat.exists_eq_add_of_lt hgt
        rw [show D64 + x + 1 = (x + 1) + D64 by omega, Nat.pow_add, ← Nat.mul_assoc] at h1
        have h2 := Nat.le_of_mul_le_mul_right h1 (Nat.two_pow_pos D64)
        have h3 : 2 ^ 52 * 2 ≤ 2 ^ 52 * 2 ^ (x + 1) := Nat.mul_le_mul_left _ (by rw [Nat.pow_succ]; have := Nat.two_pow_pos x; omega)
        omega
      · exact hle
    obtain ⟨y, hy⟩ := Nat.exists_eq_add_of_le hLD
    have hnum : n * 2 ^ D64 = n * 2 ^ y * 2 ^ L := by rw [hy, Nat.add_comm, Nat.pow_add, Nat.mul_assoc]
    have hK : K = n * 2 ^ y := Nat.le_antisymm (up _ (Nat.le_of_eq hnum)) (down _ (Nat.le_of_eq hnum.symm))
    have hKtop : K < 2 * 2 ^ 52 := by
      rw [hnum, ← hK] at top
      exact Nat.lt_of_mul_lt_mul_right top
    have hL0 : 0 < L := by
      rcases Nat.eq_zero_or_pos L with h0 | h0
      · exfalso
        subst h0
        have : y = D64 := by omega
        subst this
        have h5 : 2 ^ 53 ≤ 2 ^ D64 := Nat.pow_le_pow_right (by omega) (by rw [D64_is]; omega)
        have h6 : 2 ^ D64 ≤ n * 2 ^ D64 := Nat.le_mul_of_pos_left _ (Nat.pos_of_ne_zero hn)
        omega
      · exact h0
    have hKlow : 2 ^ 52 ≤ K := by
      have := low hL0
      rw [hnum, ← hK] at this
      exact Nat.le_of_mul_le_mul_right this (Nat.two_pow_pos L)
    obtain ⟨r, hr, er⟩ := hh.2
    have hrr : r = rung double neg n 0 := by
      rw [nearest_rung double neg 0 hn] at er
      have e1 := congrArg (rg double) er
      have hsw := inf_lt_sw double
      have hi1 : pw (52 + D64) < double.infRung := pw_inf (by rw [D64_is]; decide)
      have hri : r < double.infRung := Nat.lt_of_le_of_lt hr hi1
      rw [rg_word double neg (Nat.lt_of_le_of_lt (Nat.min_le_right _ _) hsw), rg_word double neg (Nat.lt_trans hri hsw)] at e1
      rcases Nat.le_total (rung double neg n 0) double.infRung with h' | h'
      · rw [Nat.min_eq_left h'] at e1
        exact e1.symm
      · rw [Nat.min_eq_right h'] at e1
        exact absurd e1 (Nat.ne_of_gt hri)
    have hi1 : pw (52 + D64) < double.infRung := pw_inf (by rw [D64_is]; decide)
    have hrs : r < double.signWeight := Nat.lt_trans (Nat.lt_of_le_of_lt hr hi1) (inf_lt_sw double)
    rw [er, V_word double neg hrs, hrr, eq]
    have hmv : mv double (L * 2 ^ 52 + K) = n * (4 * q64) := by rw [mv_block hKlow hKtop, hK, ← hnum, q64_D]
    rw [hmv]

end Go.Proofs.Ytbefoiikbbjjfaa.float3

namespace Go.Proofs.Ytbefoiikbbjjfaa.phase
set_option linter.unusedVariables false
open Go Ieee
open Go.Proofs.Ytbefoiikbbjjfaa.floats Go.Proofs.Ytbefoiikbbjjfaa.round Go.Proofs.Ytbefoiikbbjjfaa.values Go.Proofs.Ytbefoiikbbjjfaa.conv Go.Proofs.Ytbefoiikbbjjfaa.float2 Go.Proofs.Ytbefoiikbbjjfaa.float3

/-- Between c and d, told by their words. -/
theorem rnd_between {f : Format} {num : Int} {d r a b : Nat} (h : Rnd f num d r) (ha : FinW f a) (hb : FinW f b) (h1 : V f a * 2 ^ d ≤ num) (h2 : num ≤ V f b * 2 ^ d) : V f a ≤ V f r ∧ V f r ≤ V f b :=
  ⟨h.ge a ha h1, h.le b hb h2⟩

theorem sg_cases (s : Bool) (n : Nat) : (s = false ∧ sg s n = (n : Int)) ∨ (s = true ∧ sg s n = -(n : Int)) := by cases s <;> simp [sg]

/-- THE WHOLE PART: an integer of few digits. -/
theorem whole {x : Nat} (h : FinW double x) (h2 : (V double x).natAbs < 4503599627370496 * (4 * q64)) :
    ∃ n : Int, (double.read x).toInt .zero = some n ∧ -4503599627370496 ≤ n ∧ n ≤ 4503599627370496 ∧ FinW double (FloatKind.f64.nearest n) ∧
      ((0 ≤ V double x ∧ 0 ≤ V double x - V double (FloatKind.f64.nearest n) ∧ V double x - V double (FloatKind.f64.nearest n) ≤ 4 * (q64 : Int)) ∨
       (V double x < 0 ∧ -(4 * (q64 : Int)) ≤ V double x - V double (FloatKind.f64.nearest n) ∧ V double x - V double (FloatKind.f64.nearest n) ≤ 0)) ∧
      ((V double x).natAbs < 4 * q64 → n = 0) := by
  obtain ⟨q, hq, b1, b2⟩ := toInt_fin h
  have hV : V double x = sg (sgn double x) (mv double (rg double x)) := rfl
  rw [hV, sg_abs] at h2
  have hp := q64_pos
  generalize mv double (rg double x) = m at *
  generalize sgn double x = s at *
  have hqs : q < 4503599627370496 := by
    refine Nat.lt_of_mul_lt_mul_right (a := 4 * q64) (Nat.lt_of_le_of_lt b1 h2)
  have e52 : (2 : Nat) ^ 52 = 4503599627370496 := by decide
  refine ⟨sg s q, hq, ?_, ?_, ?_⟩
  · rcases sg_cases s q with ⟨_, e⟩ | ⟨_, e⟩ <;> rw [e] <;> omega
  · rcases sg_cases s q with ⟨_, e⟩ | ⟨_, e⟩ <;> rw [e] <;> omega
  · have hn : FloatKind.f64.nearest (sg s q) = double.nearest (decide (sg s q < 0)) q 0 := by
      unfold FloatKind.nearest
      rw [sg_abs]
      rfl
    obtain ⟨f1, f2⟩ := float_int (decide (sg s q < 0)) q (by omega)
    rw [hn, hV]
    rw [f2]
    refine ⟨f1, ?_⟩
    have hsg : sg (decide (sg s q < 0)) (q * (4 * q64)) = sg s (q * (4 * q64)) := by
      rcases sg_cases s q with ⟨es, e⟩ | ⟨es, e⟩
      · rw [e, es]
        have : ¬ ((q : Int) < 0) := by omega
        simp [this]
      · rw [e, es]
        by_cases hq0 : q = 0
        · subst hq0; simp [sg]
        · have : (-(q : Int) < 0) := by omega
          rw [decide_eq_true this]
    rw [hsg]
    rw [Nat.add_mul, Nat.one_mul] at b2
    have hz : m < 4 * q64 → q = 0 := by
      intro hm
      rcases Nat.eq_zero_or_pos q with h0 | h0
      · exact h0
      · have := Nat.le_mul_of_pos_left (4 * q64) h0
        omega
    generalize q * (4 * q64) = Q at *
    rcases sg_cases s m with ⟨es, e⟩ | ⟨es, e⟩
    · subst es
      refine ⟨.inl ?_, fun hm => ?_⟩
      · simp only [sg, Bool.false_eq_true, if_false]; omega
      · rw [sg_abs] at hm; rw [hz hm]; rfl
    · subst es
      refine ⟨?_, fun hm => ?_⟩
      · simp only [sg, if_true]
        by_cases hm0 : m = 0
        · left; omega
        · right; omega
      · rw [sg_abs] at hm; rw [hz hm]; rfl

theorem q64_E : q64 = 2 ^ (D64 - 2) := by decide +kernel
theorem bd_of {x e : Nat} (h : FinW double x) (h2 : (V double x).natAbs ≤ 2 ^ e) : Bd x e := ⟨h, h2⟩
theorem four_q : 4 * q64 = 2 ^ D64 := q64_D.symm

/-- A number less its whole part. -/
theorem frac0 {x : Nat} (h : FinW double x) (h2 : (V double x).natAbs < 4503599627370496 * (4 * q64)) :
    ∃ (n : Int) (r : Nat), (double.read x).toInt .zero = some n ∧ -9223372036854775808 ≤ n ∧ n ≤ 9223372036854775807 ∧ floatBits .sub .f64 x (FloatKind.f64.nearest n) = some r ∧ FinW double r ∧ -(4 * (q64 : Int)) ≤ V double r ∧ V double r ≤ 4 * (q64 : Int) := by
  obtain ⟨n, hn, h3, h4, hf, hb, _⟩ := whole h h2
  obtain ⟨r, hr, hrr⟩ := sub_rnd double h hf (hi := pw (D64 + 1)) (pw_inf (by rw [D64_is]; decide)) (by
    rw [mv_pw (by rw [D64_is]; decide), pow_succ', ← four_q]
    omega)
  have e1 : V double 4607182418800017408 * 2 ^ 0 = 4 * (q64 : Int) := by rw [V_one]; omega
  have hm : FinW double (double.word true 4607182418800017408) := by unfold FinW; decide +kernel
  have em : V double (double.word true 4607182418800017408) * 2 ^ 0 = -(4 * (q64 : Int)) := by
    have : V double (double.word true 4607182418800017408) = -(4 * (q64 : Int)) := by decide +kernel
    rw [this]; omega
  obtain ⟨b1, b2⟩ := rnd_between hrr hm F_one (by rw [em]; omega) (by rw [e1]; omega)
  refine ⟨n, r, hn, by omega, by omega, hr, hrr.fin, ?_, ?_⟩
  · have : V double (double.word true 4607182418800017408) = -(4 * (q64 : Int)) := by decide +kernel
    omega
  · rw [V_one] at b2; exact b2

/-- Raised by 1, where it is less than 0. -/
theorem plus_one {r : Nat} (h : FinW double r) (h1 : -(4 * (q64 : Int)) ≤ V double r) (h2 : V double r ≤ 0) :
    ∃ s, floatBits .add .f64 r 4607182418800017408 = some s ∧ FinW double s ∧ 0 ≤ V double s ∧ V double s ≤ 4 * (q64 : Int) := by
  obtain ⟨s, hs, hss⟩ := add_rnd double h F_one (hi := pw (D64 + 1)) (pw_inf (by rw [D64_is]; decide)) (by
    rw [mv_pw (by rw [D64_is]; decide), pow_succ', ← four_q, V_one]
    omega)
  have e1 : V double 4607182418800017408 * 2 ^ 0 = 4 * (q64 : Int) := by rw [V_one]; omega
  have e0 : V double 0 * 2 ^ 0 = 0 := by rw [V_zero]; omega
  obtain ⟨b1, b2⟩ := rnd_between hss F_zero F_one (by rw [e0, V_one]; omega) (by rw [e1, V_one]; omega)
  rw [V_zero] at b1
  rw [V_one] at b2
  exact ⟨s, hs, hss.fin, b1, b2⟩

/-- A quarter less: the bound goes down by a quarter. -/
theorem quarter_less {f k : Nat} (h : FinW double f) (hk : k ≤ 4) (h1 : (q64 : Int) ≤ V double f) (h2 : V double f ≤ (k : Int) * (q64 : Int)) :
    ∃ r, floatBits .sub .f64 f 4598175219545276416 = some r ∧ FinW double r ∧ 0 ≤ V double r ∧ V double r ≤ ((k : Int) - 1) * (q64 : Int) := by
  have hp := q64_pos
  obtain ⟨r, hr, hrr⟩ := sub_rnd double h F_quarter (hi := pw (D64 + 1)) (pw_inf (by rw [D64_is]; decide)) (by
    rw [mv_pw (by rw [D64_is]; decide), pow_succ', ← four_q, V_quarter]
    have : (k : Int) * (q64 : Int) ≤ 4 * (q64 : Int) := Int.mul_le_mul_of_nonneg_right (by omega) (by omega)
    omega)
  have e0 : V double 0 * 2 ^ 0 = 0 := by rw [V_zero]; omega
  have key : ∀ c : Nat, FinW double c → V double c = ((k : Int) - 1) * (q64 : Int) → 0 ≤ V double r ∧ V double r ≤ ((k : Int) - 1) * (q64 : Int) := by
    intro c hc hv
    have e1 : V double c * 2 ^ 0 = ((k : Int) - 1) * (q64 : Int) := by rw [hv]; simp
    obtain ⟨b1, b2⟩ := rnd_between hrr F_zero hc (by rw [e0, V_quarter]; omega) (by rw [e1, V_quarter, Int.sub_mul]; omega)
    rw [V_zero] at b1
    rw [hv] at b2
    exact ⟨b1, b2⟩
  refine ⟨r, hr, hrr.fin, ?_⟩
  have hk1 : 1 ≤ k := by
    rcases Nat.eq_zero_or_pos k with h0 | h0
    · subst h0; simp at h2; omega
    · exact h0
  obtain rfl | rfl | rfl | rfl : k = 1 ∨ k = 2 ∨ k = 3 ∨ k = 4 := by omega
  · exact key 0 F_zero (by rw [V_zero]; simp)
  · exact key _ F_quarter (by rw [V_quarter]; simp)
  · exact key _ F_half (by rw [V_half]; simp)
  · exact key _ F_34 (by rw [V_34]; simp)

/-- What is left to a quarter. -/
theorem to_quarter {f : Nat} (h : FinW double f) (h1 : 0 ≤ V double f) (h2 : V double f ≤ (q64 : Int)) :
    ∃ r, floatBits .sub .f64 4598175219545276416 f = some r ∧ FinW double r ∧ 0 ≤ V double r ∧ V double r ≤ (q64 : Int) := by
  have hp := q64_pos
  obtain ⟨r, hr, hrr⟩ := sub_rnd double F_quarter h (hi := pw (D64 + 1)) (pw_inf (by rw [D64_is]; decide)) (by
    rw [mv_pw (by rw [D64_is]; decide), pow_succ', ← four_q, V_quarter]
    omega)
  have e0 : V double 0 * 2 ^ 0 = 0 := by rw [V_zero]; omega
  have e1 : V double 4598175219545276416 * 2 ^ 0 = (q64 : Int) := by rw [V_quarter]; omega
  obtain ⟨b1, b2⟩ := rnd_between hrr F_zero F_quarter (by rw [e0, V_quarter]; omega) (by rw [e1, V_quarter]; omega)
  rw [V_zero] at b1
  rw [V_quarter] at b2
  exact ⟨r, hr, hrr.fin, b1, b2⟩

theorem mv_zero_iff {r : Nat} (h : mv double r = 0) : r = 0 := by
  unfold mv at h
  have hb : 0 < double.binade := Nat.two_pow_pos _
  split at h
  · exact h
  · exfalso
    have h1 := Nat.two_pow_pos (r / double.binade - 1)
    have h2 := Nat.mul_pos (show 0 < double.binade + r % double.binade by omega) h1
    omega
theorem nearest_self (s : Bool) {r : Nat} (h : r < double.infRung) : double.nearest s (mv double r) double.leastPlace = double.word s r := by
  by_cases hz : mv double r = 0
  · rw [hz, nearest_zero, mv_zero_iff hz]
  · have a := rung_le double s (mag := mv double r) (place := double.leastPlace) hz (p := 0) (d := 0) (r := r) (by simp) (Nat.le_refl _)
    have b := le_rung double s (mag := mv double r) (place := double.leastPlace) hz (p := 0) (d := 0) (r := r) (by simp) (Nat.le_refl _)
    rw [nearest_rung double s _ hz, Nat.le_antisymm a b, Nat.min_eq_left (Nat.le_of_lt h)]

/-- A NUMBER LESS 0 IS THAT NUMBER, its sign too. -/
theorem less_zero {x : Nat} (h : FinW double x) (hx : x < 2 * double.signWeight) : floatBits .sub .f64 x 0 = some x := by
  obtain ⟨m, e, ex, vx⟩ := read_fin double h
  have e0 : double.read 0 = .number false 0 double.leastPlace := by decide +kernel
  show double.sub x 0 = some x
  unfold Format.sub
  rw [ex, e0]
  simp only [Datum.opposite, Datum.sum, Bool.not_false]
  have hmin : min (double.leastPlace + (e : Int)) double.leastPlace = double.leastPlace := by omega
  rw [hmin]
  have h1 : (double.leastPlace + (e : Int) - double.leastPlace).toNat = e := by omega
  have h2 : (double.leastPlace - double.leastPlace : Int).toNat = 0 := by omega
  rw [h1, h2, signed_sg, signed_sg]
  have h3 : sg true (0 * 2 ^ 0) = 0 := by simp [sg]
  rw [h3, Int.add_zero, sg_abs, vx]
  have hs : (if sg (sgn double x) (mv double (rg double x)) = 0 then (sgn double x && true) else decide (sg (sgn double x) (mv double (rg double x)) < 0)) = sgn double x := by
    generalize mv double (rg double x) = M
    rcases sg_cases (sgn double x) M with ⟨es, e⟩ | ⟨es, e⟩
    · rw [e, es]
      split
      · rfl
      · simp
    · rw [e, es]
      split
      · rfl
      · rename_i hne
        have : (-(M : Int) < 0) := by omega
        exact decide_eq_true this
  rw [hs]
  show some (double.nearest (sgn double x) (mv double (rg double x)) double.leastPlace) = some x
  rw [nearest_self _ h, word_parts double hx]

/-- What an operation leaves is a word. -/
theorem word_lt (neg : Bool) {r : Nat} (h : r < double.signWeight) : double.word neg r < 2 * double.signWeight := by
  unfold Format.word
  cases neg <;> simp <;> omega
theorem nearest_lt (neg : Bool) (mag : Nat) (place : Int) : double.nearest neg mag place < 2 * double.signWeight := by
  have hsw := inf_lt_sw double
  by_cases hm : mag = 0
  · subst hm
    rw [nearest_zero]
    exact word_lt neg (Nat.two_pow_pos _)
  · rw [nearest_rung double neg place hm]
    exact word_lt neg (Nat.lt_of_le_of_lt (Nat.min_le_right _ _) hsw)
theorem sub_lt {x y r : Nat} (hx : FinW double x) (hy : FinW double y) (h : floatBits .sub .f64 x y = some r) : r < 2 * double.signWeight := by
  obtain ⟨m, i, ex, _⟩ := read_fin double hx
  obtain ⟨n, j, ey, _⟩ := read_fin double hy
  have h' : double.sub x y = some r := h
  unfold Format.sub at h'
  rw [ex, ey] at h'
  simp only [Datum.opposite, Datum.sum, Option.map_some, Option.some.injEq] at h'
  rw [← h']
  exact nearest_lt _ _ _
theorem add_lt {x y r : Nat} (hx : FinW double x) (hy : FinW double y) (h : floatBits .add .f64 x y = some r) : r < 2 * double.signWeight := by
  obtain ⟨m, i, ex, _⟩ := read_fin double hx
  obtain ⟨n, j, ey, _⟩ := read_fin double hy
  have h' : double.add x y = some r := h
  unfold Format.add at h'
  rw [ex, ey] at h'
  simp only [Datum.sum, Option.map_some, Option.some.injEq] at h'
  rw [← h']
  exact nearest_lt _ _ _

/-! ## the sine -/
def bv (op : BinOp) (x y : Nat) : Nat := (floatBits op .f64 x y).getD 0
theorem bv_some {op : BinOp} {x y r : Nat} (h : floatBits op .f64 x y = some r) : floatBits op .f64 x y = some (bv op x y) ∧ bv op x y = r := by
  unfold bv; rw [h]; exact ⟨rfl, rfl⟩
def sz (y : Nat) : Nat := bv .mul y 4618760256179416344
def su (y : Nat) : Nat := bv .mul (sz y) (sz y)
/-- The number that a term is divided by. -/
def sc (k : Int) : Nat := FloatKind.f64.nearest (2 * k * (2 * k + 1))
/-- The series behind i terms, the eighth first. -/
def sp (u : Nat) : Nat → Nat
  | 0 => 4607182418800017408
  | i + 1 => bv .sub 4607182418800017408 (bv .quo (bv .mul u (sp u i)) (sc (8 - i)))
def sn (y : Nat) : Nat := bv .mul (sz y) (sp (su y) 8)

theorem F_2pi : Bd 4618760256179416344 (D64 + 3) := by
  refine ⟨by unfold FinW; decide +kernel, ?_⟩
  decide +kernel
theorem one_bd : Bd 4607182418800017408 D64 := by
  refine ⟨F_one, ?_⟩
  decide +kernel
theorem sc_ok (k : Int) (h1 : 1 ≤ k) (h2 : k ≤ 8) : FinW double (sc k) ∧ 2 ^ D64 ≤ (V double (sc k)).natAbs := by
  have hc : ∃ n : Nat, 2 * k * (2 * k + 1) = n ∧ 1 ≤ n ∧ n ≤ 272 := by
    obtain rfl | rfl | rfl | rfl | rfl | rfl | rfl | rfl : k = 1 ∨ k = 2 ∨ k = 3 ∨ k = 4 ∨ k = 5 ∨ k = 6 ∨ k = 7 ∨ k = 8 := by omega
    · exact ⟨6, by decide, by decide, by decide⟩
    · exact ⟨20, by decide, by decide, by decide⟩
    · exact ⟨42, by decide, by decide, by decide⟩
    · exact ⟨72, by decide, by decide, by decide⟩
    · exact ⟨110, by decide, by decide, by decide⟩
    · exact ⟨156, by decide, by decide, by decide⟩
    · exact ⟨210, by decide, by decide, by decide⟩
    · exact ⟨272, by decide, by decide, by decide⟩
  obtain ⟨n, hn, n1, n2⟩ := hc
  have e : sc k = double.nearest false n 0 := by
    unfold sc FloatKind.nearest
    rw [hn]
    have : ¬ ((n : Int) < 0) := by omega
    simp only [this, decide_false, Int.natAbs_natCast]
    rfl
  obtain ⟨f1, f2⟩ := float_int false n (Nat.le_trans n2 (by decide))
  rw [e, f2]
  refine ⟨f1, ?_⟩
  rw [sg_abs, four_q]
  exact Nat.le_mul_of_pos_left _ n1
theorem sz_ok {y : Nat} (h : Bd y (D64 - 2)) : floatBits .mul .f64 y 4618760256179416344 = some (sz y) ∧ Bd (sz y) (D64 + 1) := by
  obtain ⟨r, hr, hb, _⟩ := bd_mul (c := D64 + 1) h F_2pi (by rw [D64_is]; decide) (by rw [D64_is]; decide) (by rw [D64_is]; decide)
  obtain ⟨e1, e2⟩ := bv_some hr
  exact ⟨e1, by unfold sz; rw [e2]; exact hb⟩
theorem su_ok {y : Nat} (h : Bd y (D64 - 2)) : floatBits .mul .f64 (sz y) (sz y) = some (su y) ∧ Bd (su y) (D64 + 2) := by
  have hz := (sz_ok h).2
  obtain ⟨r, hr, hb, _⟩ := bd_mul (c := D64 + 2) hz hz (by omega) (by rw [D64_is]; decide) (by rw [D64_is]; decide)
  obtain ⟨e1, e2⟩ := bv_some hr
  exact ⟨e1, by unfold su; rw [e2]; exact hb⟩
theorem sp_step {u i : Nat} (hu : Bd u (D64 + 2)) (hi : i < 8) (hp : Bd (sp u i) (D64 + 4 * i)) :
    floatBits .mul .f64 u (sp u i) = some (bv .mul u (sp u i)) ∧ floatBits .quo .f64 (bv .mul u (sp u i)) (sc (8 - i)) = some (bv .quo (bv .mul u (sp u i)) (sc (8 - i))) ∧
      floatBits .sub .f64 4607182418800017408 (bv .quo (bv .mul u (sp u i)) (sc (8 - i))) = some (sp u (i + 1)) ∧ Bd (sp u (i + 1)) (D64 + 4 * (i + 1)) := by
  have hd := D64_is
  obtain ⟨r, hr, hb, _⟩ := bd_mul (c := D64 + (4 * i + 2)) hu hp (by omega) (by omega) (by omega)
  obtain ⟨e1, e2⟩ := bv_some hr
  rw [← e2] at hb
  obtain ⟨c1, c2⟩ := sc_ok (8 - i) (by omega) (by omega)
  obtain ⟨r2, hr2, hb2⟩ := bd_quo hb c1 c2 (by omega) (by omega)
  obtain ⟨e3, e4⟩ := bv_some hr2
  rw [← e4] at hb2
  obtain ⟨r3, hr3, hb3, _⟩ := bd_sub (one_bd.mono (b := D64 + (4 * i + 2) + 1) (by omega)) hb2 (by omega) (by omega)
  obtain ⟨e5, e6⟩ := bv_some hr3
  refine ⟨e1, e3, e5, ?_⟩
  show Bd (bv .sub 4607182418800017408 (bv .quo (bv .mul u (sp u i)) (sc (8 - i)))) _
  rw [e6]
  exact hb3.mono (by omega)
theorem sp_ok {u : Nat} (hu : Bd u (D64 + 2)) : ∀ i, i ≤ 8 → Bd (sp u i) (D64 + 4 * i)
  | 0, _ => one_bd
  | i + 1, h => (sp_step hu (by omega) (sp_ok hu i (by omega))).2.2.2
theorem sn_ok {y : Nat} (h : Bd y (D64 - 2)) : floatBits .mul .f64 (sz y) (sp (su y) 8) = some (sn y) ∧ Bd (sn y) (D64 + 33) := by
  have hd := D64_is
  obtain ⟨r, hr, hb, _⟩ := bd_mul (c := D64 + 33) (sz_ok h).2 (sp_ok (su_ok h).2 8 (by omega)) (by omega) (by omega) (by omega)
  obtain ⟨e1, e2⟩ := bv_some hr
  exact ⟨e1, by unfold sn; rw [e2]; exact hb⟩

end Go.Proofs.Ytbefoiikbbjjfaa.phase

namespace Go.Proofs.Ytbefoiikbbjjfaa.sine
open Go.ChangeShapes Go.WideShapes Go.ChangeAt Go.RowKit
open Go.ChangeMaps (open_string shut_string)
set_option linter.unusedVariables false
open Go Ieee
open Go.Proofs.Ytbefoiikbbjjfaa.floats Go.Proofs.Ytbefoiikbbjjfaa.round Go.Proofs.Ytbefoiikbbjjfaa.values Go.Proofs.Ytbefoiikbbjjfaa.conv Go.Proofs.Ytbefoiikbbjjfaa.fWalk Go.Proofs.Ytbefoiikbbjjfaa.float2 Go.Proofs.Ytbefoiikbbjjfaa.float3 Go.Proofs.Ytbefoiikbbjjfaa.phase

/-- An operation that has an answer. -/
theorem run_ok {P : Program} {op : BinOp} {x y r : Nat} (h : floatBits op .f64 x y = some r) (ha : arithOp op = true) (w : World) (t : TypeId) : (binOp op t (.float .f64 x) (.float .f64 y)).run P w = .ok (.float .f64 r) w := by
  rw [run_floatop w op t .f64 x y ha]
  have e1 : fval op .f64 w x y = r := by unfold fval; rw [h]
  have e2 : fcnt op .f64 x y = 0 := by unfold fcnt; rw [h]; rfl
  rw [e1, e2]
  rfl
theorem sc_eq (k : Int) : sc k = floatOfInt .f64 (2 * k * (2 * k + 1)) := rfl
theorem prod_bd (i : Nat) (h : i < 8) : 0 ≤ 2 * (8 - (i : Int)) * (2 * (8 - (i : Int)) + 1) ∧ 2 * (8 - (i : Int)) * (2 * (8 - (i : Int)) + 1) ≤ 272 := by
  obtain rfl | rfl | rfl | rfl | rfl | rfl | rfl | rfl : i = 0 ∨ i = 1 ∨ i = 2 ∨ i = 3 ∨ i = 4 ∨ i = 5 ∨ i = 6 ∨ i = 7 := by omega
  all_goals decide

set_option maxHeartbeats 400000 in
set_option maxRecDepth 100000 in
theorem sine_impl (y : Nat) (w : World) (h : Bd y (D64 - 2)) :
    Calls Try.prog 177 #[.float .f64 y] w fun e w' => e = .returned (.float .f64 (sn y)) ∧ w = w' := by
  obtain ⟨z1, _⟩ := sz_ok h
  obtain ⟨u1, u2⟩ := su_ok h
  obtain ⟨s1, _⟩ := sn_ok h
  have hz := run_ok (P := Try.prog) z1 rfl
  have hu := run_ok (P := Try.prog) u1 rfl
  have hs := run_ok (P := Try.prog) s1 rfl
  have HU := Lib.hid u2
  clear z1 u1 s1 u2 h
  go_enter Try.func177, Try.ntmps177
  go_wp2
  go_loop [5, 6] (fun p k => ∃ i : Nat, i ≤ 8 ∧ k = .int .i64 (8 - (i : Int)) ∧ p = .float .f64 (sp (su y) i)) (fun _ k => (intOf k).toNat)
  case atStart => exact ⟨0, Nat.zero_le _, rfl, rfl⟩
  case round =>
    obtain ⟨i, hi, rfl, rfl⟩ := hrel
    by_cases hlt : i < 8
    · obtain ⟨a1, a2, a3, _⟩ := sp_step HU.out hlt (sp_ok HU.out i hi)
      have h1 := run_ok (P := Try.prog) a1 rfl
      have h2 := run_ok (P := Try.prog) a2 rfl
      have h3 := run_ok (P := Try.prog) a3 rfl
      rw [sc_eq] at h2 h3
      obtain ⟨p1, p2⟩ := prod_bd i hlt
      clear a1 a2 a3
      go_wp2
      go_round
      case rel => exact ⟨i + 1, by omega, congrArg (Value.int .i64) (by omega), rfl⟩
      case measure => simp [intOf]; omega
    · obtain rfl : i = 8 := by omega
      go_wp2
      go_ret
      exact ⟨rfl, rfl⟩

/-- How y stands to some numbers. -/
theorem ord_of {x c : Nat} (hx : FinW double x) (hc : FinW double c) : FloatKind.f64.format.order x c = some (compare (V double x) (V double c)) := order_fin double hx hc
theorem lt_no {x c : Nat} (hx : FinW double x) (hc : FinW double c) (h : V double c ≤ V double x) : (FloatKind.f64.format.order x c == some .lt) = false := by
  rw [ord_of hx hc]
  have : compare (V double x) (V double c) ≠ .lt := by rw [Ne, Int.compare_eq_lt]; omega
  simpa using this
theorem gt_no {x c : Nat} (hx : FinW double x) (hc : FinW double c) (h : V double x ≤ V double c) : (FloatKind.f64.format.order x c == some .gt) = false := by
  rw [ord_of hx hc]
  have : compare (V double x) (V double c) ≠ .gt := by rw [Ne, Int.compare_eq_gt]; omega
  simpa using this
theorem lt_is {x c : Nat} (hx : FinW double x) (hc : FinW double c) (h : V double x < V double c) : FloatKind.f64.format.order x c = some .lt := by
  rw [ord_of hx hc, Int.compare_eq_lt.2 h]
theorem gt_is {x c : Nat} (hx : FinW double x) (hc : FinW double c) (h : V double c < V double x) : FloatKind.f64.format.order x c = some .gt := by
  rw [ord_of hx hc, Int.compare_eq_gt.2 h]
theorem eq_is {x c : Nat} (hx : FinW double x) (hc : FinW double c) (h : V double x = V double c) : FloatKind.f64.format.order x c = some .eq := by
  rw [ord_of hx hc, h]; simp
/-- A finite number less itself. -/
theorem less_self {x : Nat} (h : FinW double x) : ∃ r, floatBits .sub .f64 x x = some r ∧ FloatKind.f64.format.order r 0 = some .eq := by
  obtain ⟨r, hr, hrr⟩ := sub_rnd double h h (hi := 0) (by rw [inf_pow]; decide) (by rw [Int.sub_self, mv_zero]; exact Nat.le_refl _)
  have e := rnd_exact hrr F_zero (by rw [V_zero]; omega)
  exact ⟨r, hr, eq_is hrr.fin F_zero e⟩
theorem conv_ok {x : Nat} {n : Int} (h : (double.read x).toInt .zero = some n) (h1 : -9223372036854775808 ≤ n) (h2 : n ≤ 9223372036854775807) (w : World) : (convert 62 2 (.float .f64 x)).run Try.prog w = .ok (.int .i64 n) w := by
  have hd : (FloatKind.f64.decode x).toInt .zero = some n := h
  have hb : IntKind.i64.min ≤ n ∧ n ≤ IntKind.i64.max := ⟨h1, h2⟩
  simp [convert, run_underlying Try.underlying62, run_underlying Try.underlying2, Conv.floatToInt, hd, hb]
  intro h3
  omega

set_option maxHeartbeats 400000 in
set_option maxRecDepth 100000 in
theorem sine_spec : True := trivial

end Go.Proofs.Ytbefoiikbbjjfaa.sine
