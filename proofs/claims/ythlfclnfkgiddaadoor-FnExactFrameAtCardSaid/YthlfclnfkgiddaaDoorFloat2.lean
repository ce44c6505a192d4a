/- Bounds by powers of 2 through 64-bit operations; integers as 64-bit numbers and back. -/
import Derived.Test.YthlfclnfkgiddaaDoorFloats
import Derived.Test.YthlfclnfkgiddaaDoorRound
import Derived.Test.YthlfclnfkgiddaaDoorValues
import Derived.Test.YthlfclnfkgiddaaDoorConv
namespace Go.Proofs.YthlfclnfkgiddaaDoor.float2
set_option linter.unusedVariables false
open Go Ieee
open Go.Proofs.YthlfclnfkgiddaaDoor.floats Go.Proofs.YthlfclnfkgiddaaDoor.round Go.Proofs.YthlfclnfkgiddaaDoor.values Go.Proofs.YthlfclnfkgiddaaDoor.conv

theorem bi_pow : double.binade = 2 ^ 52 := by decide +kernel
theorem inf_pow : double.infRung = 2047 * 2 ^ 52 := by decide +kernel
theorem sw_pow : double.signWeight = 2048 * 2 ^ 52 := by decide +kernel

/-- How many digits the least place stands behind 1. -/
def D64 : Nat := 1074
theorem D64_is : D64 = 1074 := rfl
theorem lpD : double.leastPlace = -(D64 : Int) := by decide +kernel

/-- A power of 2 as a rung. -/
def pw (e : Nat) : Nat := (e - 51) * 2 ^ 52
theorem mv_pw {e : Nat} (h : 52 ≤ e) : mv double (pw e) = 2 ^ e := by
  unfold mv pw
  rw [bi_pow]
  have hp : 0 < 2 ^ 52 := Nat.two_pow_pos _
  have h1 : ¬ (e - 51) * 2 ^ 52 < 2 ^ 52 := by
    have := Nat.le_mul_of_pos_left (2 ^ 52) (show 0 < e - 51 by omega)
    omega
  rw [if_neg h1, Nat.mul_mod_left, Nat.mul_div_cancel _ hp, Nat.add_zero, ← Nat.pow_add]
  congr 1
  omega
theorem pw_inf {e : Nat} (h : e ≤ 2097) : pw e < double.infRung := by
  unfold pw
  rw [inf_pow]
  exact Nat.mul_lt_mul_of_pos_right (by omega) (Nat.two_pow_pos _)

/-- x is finite, at most 2 ^ e least places. -/
def Bd (x e : Nat) : Prop := FinW double x ∧ (V double x).natAbs ≤ 2 ^ e
theorem Bd.mono {x a b : Nat} (h : Bd x a) (hab : a ≤ b) : Bd x b := ⟨h.1, Nat.le_trans h.2 (Nat.pow_le_pow_right (by omega) hab)⟩

theorem V_pw (neg : Bool) {e : Nat} (h : 52 ≤ e) (h2 : e ≤ 2097) : V double (double.word neg (pw e)) = sg neg (2 ^ e) ∧ FinW double (double.word neg (pw e)) := by
  have h3 := pw_inf h2
  have h4 := inf_lt_sw double
  refine ⟨by rw [V_word double neg (by omega), mv_pw h], ?_⟩
  unfold FinW
  rw [rg_word double neg (by omega)]
  exact h3

theorem rnd_bd {num : Int} {d r e : Nat} (h : Rnd double num d r) (h1 : 52 ≤ e) (h2 : e ≤ 2097) (hb : num.natAbs ≤ 2 ^ e * 2 ^ d) : Bd r e := by
  obtain ⟨v1, f1⟩ := V_pw false h1 h2
  obtain ⟨v2, f2⟩ := V_pw true h1 h2
  have a := h.le _ f1
  have b := h.ge _ f2
  rw [v1] at a
  rw [v2] at b
  have hcs : (2 : Int) ^ d = ((2 ^ d : Nat) : Int) := by simp
  rw [hcs] at a b
  rw [sg_mul] at a b
  refine ⟨h.fin, ?_⟩
  generalize 2 ^ e * 2 ^ d = B at *
  generalize 2 ^ e = E at *
  simp only [sg, Bool.false_eq_true, if_false, if_true] at a b
  have a' := a (by omega)
  have b' := b (by omega)
  omega

theorem rnd_exact {f : Format} {num : Int} {d r c : Nat} (h : Rnd f num d r) (hc : FinW f c) (e : V f c * 2 ^ d = num) : V f r = V f c := by
  have h1 := h.le c hc (by rw [e]; exact Int.le_refl _)
  have h2 := h.ge c hc (by rw [e]; exact Int.le_refl _)
  omega

theorem bd_mul {x y a b c : Nat} (hx : Bd x a) (hy : Bd y b) (hc : a + b ≤ c + D64) (h1 : 52 ≤ c) (h2 : c ≤ 2097) :
    ∃ r, floatBits .mul .f64 x y = some r ∧ Bd r c ∧ Rnd double (V double x * V double y) D64 r := by
  have hb : (V double x * V double y).natAbs ≤ 2 ^ c * 2 ^ D64 := by
    rw [Int.natAbs_mul, ← Nat.pow_add]
    refine Nat.le_trans (Nat.mul_le_mul hx.2 hy.2) ?_
    rw [← Nat.pow_add]
    exact Nat.pow_le_pow_right (by omega) hc
  obtain ⟨r, hr, hrr, _⟩ := mul_rnd double (D := D64) lpD hx.1 hy.1 (pw_inf h2) (by rw [mv_pw h1]; exact hb)
  exact ⟨r, hr, rnd_bd hrr h1 h2 hb, hrr⟩

theorem pow_succ' (e : Nat) : 2 ^ (e + 1) = 2 ^ e + 2 ^ e := by rw [Nat.pow_succ]; omega
theorem bd_sub {x y a : Nat} (hx : Bd x a) (hy : Bd y a) (h1 : 52 ≤ a + 1) (h2 : a + 1 ≤ 2097) :
    ∃ r, floatBits .sub .f64 x y = some r ∧ Bd r (a + 1) ∧ Rnd double (V double x - V double y) 0 r := by
  have hb : (V double x - V double y).natAbs ≤ 2 ^ (a + 1) := by
    have := hx.2
    have := hy.2
    rw [pow_succ']
    omega
  obtain ⟨r, hr, hrr⟩ := sub_rnd double hx.1 hy.1 (pw_inf h2) (by rw [mv_pw h1]; exact hb)
  exact ⟨r, hr, rnd_bd hrr h1 h2 (by rw [Nat.pow_zero, Nat.mul_one]; exact hb), hrr⟩

/-- A QUOTIENT by something that is at least 1. -/
theorem bd_quo {x y a : Nat} (hx : Bd x a) (hy : FinW double y) (hy1 : 2 ^ D64 ≤ (V double y).natAbs) (h1 : 52 ≤ a + 1) (h2 : a + 1 ≤ 2097) :
    ∃ r, floatBits .quo .f64 x y = some r ∧ Bd r (a + 1) := by
  obtain ⟨m, i, ex, vx⟩ := read_fin double hx.1
  obtain ⟨n, j, ey, vy⟩ := read_fin double hy
  have hxa := hx.2
  rw [V_read vx, sg_abs] at hxa
  rw [V_read vy, sg_abs] at hy1
  have hn : n ≠ 0 := by
    rintro rfl
    have := Nat.two_pow_pos D64
    omega
  let more := 54 + n.log2 - m.log2
  have hq : double.div x y = some (double.nearest (sgn double x ^^ sgn double y) (2 * ((m <<< more) / n) + ((m <<< more) % n != 0).toNat) (double.leastPlace + i - (double.leastPlace + j) - more - 1)) := by
    unfold Format.div
    rw [ex, ey]
    unfold Datum.quotient
    dsimp only
    rw [if_neg hn]
    rfl
  have hmag : (2 * ((m <<< more) / n) + ((m <<< more) % n != 0).toNat) * 2 ^ (i + D64) ≤ 2 ^ (a + 1) * 2 ^ (j + more + 1) := by
    by_cases hm : m = 0
    · subst hm
      simp
    · rw [Nat.shiftLeft_eq]
      have hmlog : 2 ^ m.log2 ≤ m := Nat.log2_self_le hm
      have hnlog : n < 2 ^ (n.log2 + 1) := Nat.lt_log2_self
      have hge : n ≤ m * 2 ^ more := by
        refine Nat.le_trans (Nat.le_of_lt hnlog) ?_
        refine Nat.le_trans ?_ (Nat.mul_le_mul_right _ hmlog)
        rw [← Nat.pow_add]
        exact Nat.pow_le_pow_right (by omega) (by show _ ≤ m.log2 + (54 + n.log2 - m.log2); omega)
      have hq1 : 1 ≤ m * 2 ^ more / n := (Nat.one_le_div_iff (Nat.pos_of_ne_zero hn)).2 hge
      have hqn : m * 2 ^ more / n * n ≤ m * 2 ^ more := Nat.div_mul_le_self _ _
      have hbit : (m * 2 ^ more % n != 0).toNat ≤ 1 := by cases (m * 2 ^ more % n != 0) <;> simp
      generalize m * 2 ^ more / n = q at *
      generalize (m * 2 ^ more % n != 0).toNat = b at *
      have h3 : 2 * q + b ≤ 4 * q := by omega
      refine Nat.le_of_mul_le_mul_right ?_ (Nat.pos_of_ne_zero hn)
      refine Nat.le_trans (Nat.mul_le_mul_right _ (Nat.mul_le_mul_right _ h3)) ?_
      have e1 : 4 * q * 2 ^ (i + D64) * n = 4 * 2 ^ (i + D64) * (q * n) := by
        generalize 2 ^ (i + D64) = P
        ac_rfl
      rw [e1]
      refine Nat.le_trans (Nat.mul_le_mul_left _ hqn) ?_
      have e2 : 4 * 2 ^ (i + D64) * (m * 2 ^ more) = m * 2 ^ i * (2 ^ D64 * (4 * 2 ^ more)) := by
        rw [Nat.pow_add]
        generalize 2 ^ i = I
        generalize 2 ^ D64 = P
        generalize 2 ^ more = M
        ac_rfl
      have e3 : 2 ^ (a + 1) * 2 ^ (j + more + 1) * n = 2 ^ a * (n * 2 ^ j * (4 * 2 ^ more)) := by
        rw [Nat.pow_add, Nat.pow_add, Nat.pow_add, show (4 : Nat) = 2 ^ 1 * 2 ^ 1 from rfl]
        generalize 2 ^ j = J
        generalize 2 ^ a = Q
        generalize 2 ^ more = M
        ac_rfl
      rw [e2, e3]
      exact Nat.mul_le_mul hxa (Nat.mul_le_mul_right _ hy1)
  have hh := nearest_rnd double (sgn double x ^^ sgn double y) (2 * ((m <<< more) / n) + ((m <<< more) % n != 0).toNat) (double.leastPlace + i - (double.leastPlace + j) - more - 1) (p := i + D64) (d := j + more + 1) (by rw [lpD]; omega) (pw_inf h2) (by rw [mv_pw h1]; exact hmag)
  exact ⟨_, hq, rnd_bd hh.1 h1 h2 (by rw [sg_abs]; exact hmag)⟩

end Go.Proofs.YthlfclnfkgiddaaDoor.float2
