/- Fractions: a root, its quotient, and the power of what is multiplied by it. -/
namespace Go.Proofs.Ytabbfpjngbiohaa.normQ
set_option linter.unusedVariables false
def nq (a b e : Rat) : Prop := a - b ≤ e ∧ b - a ≤ e
theorem sq0 (d : Rat) : 0 ≤ d * d := by
  rcases (Rat.le_total : (0 : Rat) ≤ d ∨ d ≤ 0) with q | q
  · exact Rat.mul_nonneg q q
  · have := Rat.mul_nonneg (show 0 ≤ -d by grind) (show 0 ≤ -d by grind); grind
theorem le_of_sq {a b : Rat} (hb : 0 ≤ b) (h : a * a ≤ b * b) : a ≤ b := by
  refine Rat.not_lt.1 fun q => ?_
  have h1 : 0 < a - b := by grind
  have h2 : 0 < a + b := by grind
  have := Rat.mul_pos h1 h2
  grind
theorem abs_of_sq {t c : Rat} (hc : 0 ≤ c) (h : t * t ≤ c * c) : nq t 0 c := by
  have a := le_of_sq hc h
  have b := le_of_sq (a := -t) hc (by grind)
  unfold nq; constructor <;> grind
/-- The bounds of the exact root. -/
theorem root_lo {z P : Rat} (hz : 0 ≤ z) (hP : 1 / 256 ≤ P) (h : nq (z * z) P (P / 18014398509481984)) : 1 / 17 ≤ z := by
  refine le_of_sq hz ?_
  unfold nq at h
  grind
theorem root_hi {z P : Rat} (hP : P ≤ 64) (h : nq (z * z) P (P / 18014398509481984)) : z ≤ 801 / 100 := by
  refine le_of_sq (by grind) ?_
  unfold nq at h
  grind
theorem root_q {z r P : Rat} (hz : 0 ≤ z) (hP : 1 / 256 ≤ P) (hP2 : P ≤ 64) (h : nq (z * z) P (P / 18014398509481984)) (hr : nq r z (1 / 262000)) : 1 / 18 ≤ r ∧ r ≤ 81 / 10 ∧ nq (r * r) P (P / 7000) := by
  have a := root_lo hz hP h
  have b := root_hi hP2 h
  refine ⟨by unfold nq at hr; grind, by unfold nq at hr; grind, ?_⟩
  -- z is at most 17 z^2
  have c : 0 ≤ z * (z - 10 / 160 + 1 / 100000) := by
    refine Rat.mul_nonneg hz ?_
    have : 624999 / 10000000 ≤ z := by
      refine le_of_sq hz ?_
      unfold nq at h
      grind
    grind
  generalize hd : r - z = d
  have er : r = z + d := by grind
  subst er
  have hd2 : nq d 0 (1 / 262000) := by unfold nq at *; grind
  have d1 : 0 ≤ (1 / 262000 - d) * z := Rat.mul_nonneg (by unfold nq at hd2; grind) hz
  have d2 : 0 ≤ (1 / 262000 + d) * z := Rat.mul_nonneg (by unfold nq at hd2; grind) hz
  have d3 : d * d ≤ 1 / 262000 * (1 / 262000) := by
    have x1 : 0 ≤ 1 / 262000 - d := by unfold nq at hd2; grind
    have x2 : 0 ≤ 1 / 262000 + d := by unfold nq at hd2; grind
    have := Rat.mul_nonneg x1 x2
    grind
  have d4 : 0 ≤ d * d := sq0 d
  have e1 : (z + d) * (z + d) = z * z + 2 * (d * z) + d * d := by grind
  rw [e1]
  have f1 : (1 / 262000 - d) * z = 1 / 262000 * z - d * z := by grind
  have f2 : (1 / 262000 + d) * z = 1 / 262000 * z + d * z := by grind
  have f3 : z * (z - 10 / 160 + 1 / 100000) = z * z - (10 / 160 - 1 / 100000) * z := by grind
  rw [f1] at d1
  rw [f2] at d2
  rw [f3] at c
  generalize z * z = Z at *
  generalize d * z = D at *
  generalize d * d = E at *
  unfold nq at *
  constructor <;> grind
/-- The quotient of 1 and the root. -/
theorem quo_q {z y r c : Rat} (hr0 : 0 ≤ r) (hy : nq y z c) (h : nq (z * r) 1 (1 / 16777216)) (hc : c * r ≤ 1 / 65000) : nq (y * r) 1 (1 / 64000) := by
  have a : 0 ≤ (c - (y - z)) * r := Rat.mul_nonneg (by unfold nq at hy; grind) hr0
  have b : 0 ≤ (c - (z - y)) * r := Rat.mul_nonneg (by unfold nq at hy; grind) hr0
  have e1 : (c - (y - z)) * r = c * r - y * r + z * r := by grind
  have e2 : (c - (z - y)) * r = c * r + y * r - z * r := by grind
  rw [e1] at a
  rw [e2] at b
  generalize y * r = Y at *
  generalize z * r = Z at *
  generalize c * r = C at *
  unfold nq at *
  constructor <;> grind
theorem norm_q {y r P : Rat} (hP : 0 ≤ P) (h1 : nq (r * r) P (P / 7000)) (h2 : nq (y * r) 1 (1 / 64000)) : nq (y * y * P) 1 (1 / 5000) := by
  have hy : 0 ≤ y * y := sq0 y
  have a : 0 ≤ y * y * (P / 7000 - (r * r - P)) := Rat.mul_nonneg hy (by unfold nq at h1; grind)
  have b : 0 ≤ y * y * (P / 7000 - (P - r * r)) := Rat.mul_nonneg hy (by unfold nq at h1; grind)
  have e1 : y * y * (P / 7000 - (r * r - P)) = y * y * P * (1 + 1 / 7000) - y * r * (y * r) := by grind
  have e2 : y * y * (P / 7000 - (P - r * r)) = y * y * P * (1 / 7000 - 1) + y * r * (y * r) := by grind
  rw [e1] at a
  rw [e2] at b
  have c1 : 0 ≤ (1 / 64000 - (y * r - 1)) * (y * r) := Rat.mul_nonneg (by unfold nq at h2; grind) (by unfold nq at h2; grind)
  have c2 : 0 ≤ (1 / 64000 - (1 - y * r)) * (y * r) := Rat.mul_nonneg (by unfold nq at h2; grind) (by unfold nq at h2; grind)
  generalize y * y * P = Q at *
  generalize y * r = s at *
  have f1 : (1 / 64000 - (s - 1)) * s = (1 + 1 / 64000) * s - s * s := by grind
  have f2 : (1 / 64000 - (1 - s)) * s = (1 / 64000 - 1) * s + s * s := by grind
  rw [f1] at c1
  rw [f2] at c2
  generalize s * s = S at *
  unfold nq at *
  constructor <;> grind
/-- One part: its square against the exact one. -/
theorem part_q {a y o : Rat} (h : a * y * (a * y) ≤ 1001 / 1000) (ho : nq o (a * y) (1 / 2000000)) : nq (o * o) (a * y * (a * y)) (1 / 900000) := by
  generalize a * y = t at *
  have b := abs_of_sq (c := 101 / 100) (t := t) (by grind) (by grind)
  generalize hd : o - t = d
  have eo : o = t + d := by grind
  subst eo
  have hd2 : nq d 0 (1 / 2000000) := by unfold nq at *; grind
  have d3 : d * d ≤ 1 / 2000000 * (1 / 2000000) := by
    have x1 : 0 ≤ 1 / 2000000 - d := by unfold nq at hd2; grind
    have x2 : 0 ≤ 1 / 2000000 + d := by unfold nq at hd2; grind
    have := Rat.mul_nonneg x1 x2
    grind
  have d4 : 0 ≤ d * d := sq0 d
  have p : nq (d * t) 0 (1 / 2000000 * (101 / 100)) := by
    unfold nq at b hd2
    have y1 := Rat.mul_nonneg (show 0 ≤ 1 / 2000000 - d by grind) (show 0 ≤ 101 / 100 + t by grind)
    have y2 := Rat.mul_nonneg (show 0 ≤ 1 / 2000000 + d by grind) (show 0 ≤ 101 / 100 + t by grind)
    have y3 := Rat.mul_nonneg (show 0 ≤ 1 / 2000000 - d by grind) (show 0 ≤ 101 / 100 - t by grind)
    have y4 := Rat.mul_nonneg (show 0 ≤ 1 / 2000000 + d by grind) (show 0 ≤ 101 / 100 - t by grind)
    unfold nq
    constructor <;> grind
  have e1 : (t + d) * (t + d) = t * t + 2 * (d * t) + d * d := by grind
  rw [e1]
  generalize t * t = T at *
  generalize d * t = D at *
  generalize d * d = E at *
  unfold nq at *
  constructor <;> grind

end Go.Proofs.Ytabbfpjngbiohaa.normQ
