/- Rounding to the nearest keeps bounds that the format has. -/
import Derived.Test.YthlfclnfkgiddaaFloats
namespace Go.Proofs.Ythlfclnfkgiddaa.round
set_option linter.unusedVariables false
open Go Ieee

theorem cut_le {neg : Bool} {n drop A : Nat} (h : n ≤ A * 2 ^ drop) : Toward.even.cut neg n drop ≤ A := by
  unfold Toward.cut
  simp only [Nat.shiftLeft_eq, Nat.one_mul]
  by_cases hd : drop ≤ n.log2 + 2
  · rw [Nat.min_eq_left hd]
    have hg : 0 < 2 ^ drop := Nat.two_pow_pos _
    generalize 2 ^ drop = g at *
    have e := Nat.div_add_mod n g
    have hr := Nat.mod_lt n hg
    by_cases h0 : n % g = 0
    · have : (decide (g < 2 * (n % g)) || (g == 2 * (n % g) && n / g % 2 == 1)) = false := by
        rw [h0]; simp; omega
      rw [this]
      simp only [Bool.toNat_false, Nat.add_zero]
      exact Nat.div_le_of_le_mul (by rw [Nat.mul_comm]; exact h)
    · have hlt : n / g < A := by
        rw [Nat.div_lt_iff_lt_mul hg]
        rcases Nat.lt_or_eq_of_le h with h | h
        · exact h
        · subst h; simp at h0
      have := Bool.toNat_le (decide (g < 2 * (n % g)) || (g == 2 * (n % g) && n / g % 2 == 1))
      omega
  · have hn : n < 2 ^ (n.log2 + 1) := Nat.lt_log2_self
    have hmin : min drop (n.log2 + 2) = n.log2 + 2 := Nat.min_eq_right (by omega)
    rw [hmin]
    have e2 : 2 ^ (n.log2 + 2) = 2 * 2 ^ (n.log2 + 1) := by rw [Nat.pow_succ (n := 2) (m := n.log2 + 1), Nat.mul_comm]
    rw [e2]
    generalize 2 ^ (n.log2 + 1) = g at *
    rw [Nat.div_eq_of_lt (by omega), Nat.mod_eq_of_lt (by omega)]
    have : (decide (2 * g < 2 * n) || (2 * g == 2 * n && 0 % 2 == 1)) = false := by simp; omega
    rw [this]; simp

theorem le_cut {neg : Bool} {n drop A : Nat} (h : A * 2 ^ drop ≤ n) : A ≤ Toward.even.cut neg n drop := by
  unfold Toward.cut
  simp only [Nat.shiftLeft_eq, Nat.one_mul]
  by_cases hd : drop ≤ n.log2 + 2
  · rw [Nat.min_eq_left hd]
    exact Nat.le_trans ((Nat.le_div_iff_mul_le (Nat.two_pow_pos _)).2 h) (Nat.le_add_right _ _)
  · have hn : n < 2 ^ (n.log2 + 1) := Nat.lt_log2_self
    have hle : 2 ^ (n.log2 + 1) ≤ 2 ^ drop := Nat.pow_le_pow_right (by omega) (by omega)
    have : A = 0 := by
      rcases Nat.eq_zero_or_pos A with h0 | h0
      · exact h0
      · have := Nat.le_mul_of_pos_left (2 ^ drop) h0
        omega
    rw [this]; exact Nat.zero_le _

/-- the rung of the nearest word, before it is held down to infinity -/
def rung (f : Format) (neg : Bool) (mag : Nat) (place : Int) : Nat :=
  (max (place + mag.log2 - f.fractionBits) f.leastPlace - f.leastPlace).toNat * f.binade +
    Toward.even.cut neg (mag <<< (place - max (place + mag.log2 - f.fractionBits) f.leastPlace).toNat) (max (place + mag.log2 - f.fractionBits) f.leastPlace - place).toNat

theorem nearest_rung (f : Format) (neg : Bool) {mag : Nat} (place : Int) (h : mag ≠ 0) : f.nearest neg mag place = f.word neg (min (rung f neg mag place) f.infRung) := by
  unfold Format.nearest; rw [if_neg h]; rfl
theorem nearest_zero (f : Format) (neg : Bool) (place : Int) : f.nearest neg 0 place = f.word neg 0 := by
  unfold Format.nearest; rw [if_pos rfl]

/-- the number of a rung, in least places -/
def mv (f : Format) (r : Nat) : Nat := if r < f.binade then r else (f.binade + r % f.binade) * 2 ^ (r / f.binade - 1)

theorem pows (A L d : Nat) : A * 2 ^ L * 2 ^ d = A * 2 ^ (d + L) := by rw [Nat.mul_assoc, ← Nat.pow_add, Nat.add_comm]
theorem scale_le {mag p d L A : Nat} (h : mag * 2 ^ p ≤ A * 2 ^ L * 2 ^ d) : mag * 2 ^ (p - (d + L)) ≤ A * 2 ^ ((d + L) - p) := by
  rw [pows] at h
  generalize d + L = g at *
  by_cases hc : g ≤ p
  · obtain ⟨x, rfl⟩ := Nat.exists_eq_add_of_le hc
    rw [show g + x - g = x from by omega, show g - (g + x) = 0 from by omega]
    rw [Nat.pow_add, Nat.mul_left_comm, Nat.mul_comm A] at h
    rw [Nat.pow_zero, Nat.mul_one]
    exact Nat.le_of_mul_le_mul_left h (Nat.two_pow_pos _)
  · obtain ⟨x, rfl⟩ := Nat.exists_eq_add_of_le (Nat.le_of_not_le hc)
    rw [show p - (p + x) = 0 from by omega, show p + x - p = x from by omega, Nat.pow_zero, Nat.mul_one]
    rw [Nat.pow_add, Nat.mul_left_comm, Nat.mul_comm mag] at h
    exact Nat.le_of_mul_le_mul_left h (Nat.two_pow_pos _)
theorem le_scale {mag p d L A : Nat} (h : A * 2 ^ L * 2 ^ d ≤ mag * 2 ^ p) : A * 2 ^ ((d + L) - p) ≤ mag * 2 ^ (p - (d + L)) := by
  rw [pows] at h
  generalize d + L = g at *
  by_cases hc : g ≤ p
  · obtain ⟨x, rfl⟩ := Nat.exists_eq_add_of_le hc
    rw [show g + x - g = x from by omega, show g - (g + x) = 0 from by omega]
    rw [Nat.pow_add, Nat.mul_left_comm, Nat.mul_comm A] at h
    rw [Nat.pow_zero, Nat.mul_one]
    exact Nat.le_of_mul_le_mul_left h (Nat.two_pow_pos _)
  · obtain ⟨x, rfl⟩ := Nat.exists_eq_add_of_le (Nat.le_of_not_le hc)
    rw [show p - (p + x) = 0 from by omega, show p + x - p = x from by omega, Nat.pow_zero, Nat.mul_one]
    rw [Nat.pow_add, Nat.mul_left_comm, Nat.mul_comm mag] at h
    exact Nat.le_of_mul_le_mul_left h (Nat.two_pow_pos _)

/-- what is known of a rung: 'L' binades up, and how far in -/
structure Rung (f : Format) (neg : Bool) (mag : Nat) (place : Int) (p d L K : Nat) : Prop where
  eq : rung f neg mag place = L * f.binade + K
  up : ∀ A, mag * 2 ^ p ≤ A * 2 ^ L * 2 ^ d → K ≤ A
  down : ∀ A, A * 2 ^ L * 2 ^ d ≤ mag * 2 ^ p → A ≤ K
  top : mag * 2 ^ p < 2 * f.binade * 2 ^ L * 2 ^ d
  low : 0 < L → f.binade * 2 ^ L * 2 ^ d ≤ mag * 2 ^ p

theorem rung_facts (f : Format) (neg : Bool) {mag : Nat} {place : Int} (hm : mag ≠ 0) {p d : Nat} (hp : place = f.leastPlace + p - d) : ∃ L K, Rung f neg mag place p d L K := by
  obtain ⟨L, hL⟩ : ∃ L : Nat, max (place + mag.log2 - f.fractionBits) f.leastPlace = f.leastPlace + L := ⟨(max (place + mag.log2 - f.fractionBits) f.leastPlace - f.leastPlace).toNat, by omega⟩
  have e1 : (f.leastPlace + L - f.leastPlace).toNat = L := by omega
  have e2 : (place - (f.leastPlace + L)).toNat = p - (d + L) := by omega
  have e3 : ((f.leastPlace + L) - place).toNat = (d + L) - p := by omega
  have hge : p + mag.log2 ≤ L + d + f.fractionBits := by omega
  have heq : 0 < L → p + mag.log2 = L + d + f.fractionBits := by omega
  have hlt : mag < 2 ^ (mag.log2 + 1) := Nat.lt_log2_self
  have hle : 2 ^ mag.log2 ≤ mag := Nat.log2_self_le hm
  refine ⟨L, Toward.even.cut neg (mag <<< (place - max (place + mag.log2 - f.fractionBits) f.leastPlace).toNat) (max (place + mag.log2 - f.fractionBits) f.leastPlace - place).toNat, ?_, ?_, ?_, ?_, ?_⟩
  · unfold rung; rw [hL, e1]
  · intro A h
    rw [hL, e2, e3, Nat.shiftLeft_eq]
    exact cut_le (scale_le h)
  · intro A h
    rw [hL, e2, e3, Nat.shiftLeft_eq]
    exact le_cut (le_scale h)
  · unfold Format.binade
    calc mag * 2 ^ p < 2 ^ (mag.log2 + 1) * 2 ^ p := Nat.mul_lt_mul_of_pos_right hlt (Nat.two_pow_pos _)
      _ = 2 ^ (mag.log2 + 1 + p) := (Nat.pow_add _ _ _).symm
      _ ≤ 2 ^ (1 + f.fractionBits + L + d) := Nat.pow_le_pow_right (by omega) (by omega)
      _ = 2 * 2 ^ f.fractionBits * 2 ^ L * 2 ^ d := by rw [Nat.pow_add, Nat.pow_add, Nat.pow_add]
  · intro h0
    unfold Format.binade
    calc 2 ^ f.fractionBits * 2 ^ L * 2 ^ d = 2 ^ (f.fractionBits + L + d) := by rw [Nat.pow_add, Nat.pow_add]
      _ = 2 ^ mag.log2 * 2 ^ p := by rw [← Nat.pow_add]; congr 1; have := heq h0; omega
      _ ≤ mag * 2 ^ p := Nat.mul_le_mul_right _ hle

theorem rung_le (f : Format) (neg : Bool) {mag : Nat} {place : Int} (hm : mag ≠ 0) {p d r : Nat} (hp : place = f.leastPlace + p - d) (h : mag * 2 ^ p ≤ mv f r * 2 ^ d) : rung f neg mag place ≤ r := by
  obtain ⟨L, K, eq, up, down, top, low⟩ := rung_facts f neg hm hp
  rw [eq]
  have hb : 0 < f.binade := Nat.two_pow_pos _
  have hK : K ≤ 2 * f.binade := up _ (Nat.le_of_lt top)
  have hd : 0 < 2 ^ d := Nat.two_pow_pos _
  unfold mv at h
  by_cases hr : r < f.binade
  · rw [if_pos hr] at h
    rcases Nat.eq_zero_or_pos L with h0 | h0
    · subst h0
      have := up r (by rw [Nat.pow_zero, Nat.mul_one]; exact h)
      omega
    · have h2 := Nat.le_trans (low h0) h
      have h3 := Nat.le_of_mul_le_mul_right h2 hd
      have h4 := Nat.le_mul_of_pos_right f.binade (Nat.two_pow_pos L)
      omega
  · rw [if_neg hr] at h
    obtain ⟨q, hq⟩ : ∃ q, r / f.binade = q + 1 := ⟨r / f.binade - 1, by have := (Nat.one_le_div_iff hb).2 (Nat.le_of_not_lt hr); omega⟩
    have er := Nat.div_add_mod r f.binade
    rw [hq] at h er
    rw [Nat.add_sub_cancel] at h
    have hm2 := Nat.mod_lt r hb
    generalize r % f.binade = m at *
    rw [Nat.mul_add, Nat.mul_one] at er
    rcases Nat.lt_trichotomy q L with hc | hc | hc
    · have h2 := Nat.le_trans (low (by omega)) h
      have h3 := Nat.le_of_mul_le_mul_right h2 hd
      obtain ⟨x, rfl⟩ := Nat.exists_eq_add_of_lt hc
      rw [show q + x + 1 = (x + 1) + q from by omega, Nat.pow_add, ← Nat.mul_assoc] at h3
      have h4 := Nat.le_of_mul_le_mul_right h3 (Nat.two_pow_pos _)
      have h5 : f.binade * 2 ≤ f.binade * 2 ^ (x + 1) := Nat.mul_le_mul_left _ (by rw [Nat.pow_succ]; have := Nat.two_pow_pos x; omega)
      omega
    · subst hc
      have := up _ h
      rw [Nat.mul_comm] at er
      omega
    · obtain ⟨x, rfl⟩ := Nat.exists_eq_add_of_lt hc
      have : f.binade * (L + x + 1) = L * f.binade + x * f.binade + f.binade := by rw [Nat.mul_add, Nat.mul_add, Nat.mul_one, Nat.mul_comm f.binade L, Nat.mul_comm f.binade x]
      omega

theorem le_rung (f : Format) (neg : Bool) {mag : Nat} {place : Int} (hm : mag ≠ 0) {p d r : Nat} (hp : place = f.leastPlace + p - d) (h : mv f r * 2 ^ d ≤ mag * 2 ^ p) : r ≤ rung f neg mag place := by
  obtain ⟨L, K, eq, up, down, top, low⟩ := rung_facts f neg hm hp
  rw [eq]
  have hb : 0 < f.binade := Nat.two_pow_pos _
  have hd : 0 < 2 ^ d := Nat.two_pow_pos _
  have hK : 0 < L → f.binade ≤ K := fun h0 => down _ (low h0)
  unfold mv at h
  by_cases hr : r < f.binade
  · rw [if_pos hr] at h
    rcases Nat.eq_zero_or_pos L with h0 | h0
    · subst h0
      have := down r (by rw [Nat.pow_zero, Nat.mul_one]; exact h)
      omega
    · have := hK h0
      omega
  · rw [if_neg hr] at h
    obtain ⟨q, hq⟩ : ∃ q, r / f.binade = q + 1 := ⟨r / f.binade - 1, by have := (Nat.one_le_div_iff hb).2 (Nat.le_of_not_lt hr); omega⟩
    have er := Nat.div_add_mod r f.binade
    rw [hq] at h er
    rw [Nat.add_sub_cancel] at h
    have hm2 := Nat.mod_lt r hb
    generalize r % f.binade = m at *
    rw [Nat.mul_add, Nat.mul_one] at er
    rcases Nat.lt_trichotomy q L with hc | hc | hc
    · obtain ⟨x, rfl⟩ := Nat.exists_eq_add_of_lt hc
      have := hK (by omega)
      have : (q + x + 1) * f.binade = f.binade * q + x * f.binade + f.binade := by rw [Nat.add_mul, Nat.add_mul, Nat.one_mul, Nat.mul_comm q]
      omega
    · subst hc
      have := down _ h
      rw [Nat.mul_comm] at er
      omega
    · have h2 := Nat.lt_of_le_of_lt h top
      have h3 := Nat.lt_of_mul_lt_mul_right h2
      obtain ⟨x, rfl⟩ := Nat.exists_eq_add_of_lt hc
      rw [show L + x + 1 = (x + 1) + L from by omega, Nat.pow_add, ← Nat.mul_assoc] at h3
      have h4 := Nat.lt_of_mul_lt_mul_right h3
      have h5 : f.binade * 2 ≤ (f.binade + m) * 2 ^ (x + 1) := Nat.mul_le_mul (by omega) (by rw [Nat.pow_succ]; have := Nat.two_pow_pos x; omega)
      omega

end Go.Proofs.Ythlfclnfkgiddaa.round
