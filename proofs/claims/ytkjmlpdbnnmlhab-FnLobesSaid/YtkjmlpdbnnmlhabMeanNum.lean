/- Sums and means of 32-bit numbers stay within them. -/
import Derived.Test.YtkjmlpdbnnmlhabFloatAll
import Derived.Test.YtkjmlpdbnnmlhabFlAll
namespace Go.Proofs.Ytkjmlpdbnnmlhab.meanNum
set_option linter.unusedVariables false
open Go Ieee
open Go.Proofs.Ytkjmlpdbnnmlhab.floats Go.Proofs.Ytkjmlpdbnnmlhab.round Go.Proofs.Ytkjmlpdbnnmlhab.values Go.Proofs.Ytkjmlpdbnnmlhab.conv Go.Proofs.Ytkjmlpdbnnmlhab.float2 Go.Proofs.Ytkjmlpdbnnmlhab.float3

def T0 : Nat := 16777215
def EE : Nat := 1178
def M64 : Nat := T0 * 2 ^ EE
theorem m64_is : mv single 2139095039 * 2 ^ 925 = M64 := by decide +kernel
theorem ck_all : ∀ k : Fin 130, (decide (double.nearest false (k.val * T0) 104 < double.infRung) && (mv double (double.nearest false (k.val * T0) 104) == k.val * M64)) = true := by decide +kernel
theorem ck (k : Nat) (h : k ≤ 129) : ∃ c, c < double.infRung ∧ mv double c = k * M64 := by
  have := ck_all ⟨k, by omega⟩
  rw [Bool.and_eq_true, beq_iff_eq, decide_eq_true_eq] at this
  exact ⟨_, this.1, this.2⟩
/-- A quotient by at least 1 keeps a bound with few digits. -/
theorem quo_le {x y : Nat} (hx : FinW double x) (hy : FinW double y) (hy1 : 2 ^ D64 ≤ (V double y).natAbs) (hsz : (V double x).natAbs < 2 ^ (EE + 32))
    (hle : (V double x).natAbs * 2 ^ D64 ≤ M64 * (V double y).natAbs) : ∃ r, floatBits .quo .f64 x y = some r ∧ FinW double r ∧ (V double r).natAbs ≤ M64 := by
  obtain ⟨m, i, ex, vx⟩ := read_fin double hx
  obtain ⟨n, j, ey, vy⟩ := read_fin double hy
  rw [V_read vx, sg_abs] at hsz hle
  rw [V_read vy, sg_abs] at hy1 hle
  obtain ⟨c, hc1, hc2⟩ := ck 1 (by omega)
  rw [Nat.one_mul] at hc2
  have hn : n ≠ 0 := by
    rintro rfl
    have := Nat.two_pow_pos D64
    omega
  let more := 54 + n.log2 - m.log2
  have hq : double.div x y = some (double.nearest (sgn double x ^^ sgn double y) (2 * ((m <<< more) / n) + ((m <<< more) % n != 0).toNat) (double.leastPlace + i - (double.leastPlace + j) - more - 1)) := by
    unfold Format.div
    rw [ex, ey]
    unfold Datum.quotient
    dsimp only
    rw [if_neg hn]
    rfl
  have hmag : (2 * ((m <<< more) / n) + ((m <<< more) % n != 0).toNat) * 2 ^ (i + D64) ≤ M64 * 2 ^ (j + more + 1) := by
    by_cases hm : m = 0
    · rw [hm, Nat.zero_shiftLeft, Nat.zero_div, Nat.zero_mod]
      show (2 * 0 + 0) * _ ≤ _
      rw [Nat.mul_zero, Nat.zero_add, Nat.zero_mul]
      exact Nat.zero_le _
    · rw [Nat.shiftLeft_eq]
      have hmlog : 2 ^ m.log2 ≤ m := Nat.log2_self_le hm
      have hnlog : n < 2 ^ (n.log2 + 1) := Nat.lt_log2_self
      have h1 : m.log2 + i < EE + 32 := by
        refine (Nat.pow_lt_pow_iff_right (a := 2) (by omega)).1 ?_
        rw [Nat.pow_add]
        exact Nat.lt_of_le_of_lt (Nat.mul_le_mul_right _ hmlog) hsz
      have h2 : D64 < n.log2 + 1 + j := by
        refine (Nat.pow_lt_pow_iff_right (a := 2) (by omega)).1 ?_
        refine Nat.lt_of_le_of_lt hy1 ?_
        rw [Nat.pow_add]
        exact Nat.mul_lt_mul_of_pos_right hnlog (Nat.two_pow_pos _)
      have h3 : i + D64 ≤ EE + (j + more) := by
        show i + D64 ≤ EE + (j + (54 + n.log2 - m.log2))
        omega
      obtain ⟨z, hz⟩ := Nat.exists_eq_add_of_le h3
      -- the bound as a whole number of places
      have hX : M64 * 2 ^ (j + more) = (T0 * 2 ^ z) * 2 ^ (i + D64) := by
        unfold M64
        rw [Nat.mul_assoc, Nat.mul_assoc, ← Nat.pow_add, ← Nat.pow_add, hz, Nat.add_comm z]
      have ha : m * 2 ^ more ≤ (T0 * 2 ^ z) * n := by
        have hP := Nat.two_pow_pos (i + D64)
        refine Nat.le_of_mul_le_mul_right ?_ hP
        have e1 : m * 2 ^ more * 2 ^ (i + D64) = m * 2 ^ i * 2 ^ D64 * 2 ^ more := by
          rw [Nat.pow_add]; generalize 2 ^ i = I; generalize 2 ^ D64 = P; generalize 2 ^ more = Q; ac_rfl
        have e2 : T0 * 2 ^ z * n * 2 ^ (i + D64) = M64 * (n * 2 ^ j) * 2 ^ more := by
          rw [Nat.mul_right_comm, ← hX, Nat.pow_add]
          generalize 2 ^ j = J; generalize 2 ^ more = Q; generalize M64 = M; ac_rfl
        rw [e1, e2]
        exact Nat.mul_le_mul_right _ hle
      have hnp : 0 < n := Nat.pos_of_ne_zero hn
      have hdm := Nat.div_add_mod (m * 2 ^ more) n
      have hml := Nat.mod_lt (m * 2 ^ more) hnp
      have h4 : 2 * (m * 2 ^ more / n) + (m * 2 ^ more % n != 0).toNat ≤ 2 * (T0 * 2 ^ z) := by
        have hd : m * 2 ^ more / n ≤ T0 * 2 ^ z := Nat.div_le_of_le_mul (by rw [Nat.mul_comm n]; exact ha)
        rcases Nat.lt_or_eq_of_le hd with h | h
        · have hb : (m * 2 ^ more % n != 0).toNat ≤ 1 := by cases (m * 2 ^ more % n != 0) <;> simp
          omega
        · have h0 : m * 2 ^ more % n = 0 := by
            rw [h, Nat.mul_comm n] at hdm
            omega
          rw [h0, h, show ((0 : Nat) != 0).toNat = 0 from rfl, Nat.add_zero]
          exact Nat.le_refl _
      calc (2 * (m * 2 ^ more / n) + (m * 2 ^ more % n != 0).toNat) * 2 ^ (i + D64) ≤ 2 * (T0 * 2 ^ z) * 2 ^ (i + D64) := Nat.mul_le_mul_right _ h4
        _ = M64 * 2 ^ (j + more + 1) := by
          rw [Nat.mul_assoc, ← hX, Nat.pow_succ, Nat.mul_comm 2, Nat.mul_assoc]
  have hh := nearest_rnd double (sgn double x ^^ sgn double y) (2 * ((m <<< more) / n) + ((m <<< more) % n != 0).toNat) (double.leastPlace + i - (double.leastPlace + j) - more - 1) (p := i + D64) (d := j + more + 1) (by rw [lpD]; omega) hc1 (by rw [hc2]; exact hmag)
  refine ⟨_, hq, hh.1.fin, ?_⟩
  obtain ⟨r, hr, er⟩ := hh.2
  have hsw := inf_lt_sw double
  rw [er, V_word double _ (by omega), sg_abs, ← hc2]
  exact mv_mono double hr

/-! ## sums -/
theorem pow_cast (d : Nat) : (2 : Int) ^ d = ((2 ^ d : Nat) : Int) := by simp
theorem add_fin {a b r : Nat} (h : floatBits .add .f64 a b = some r) (hr : FinW double r) : FinW double a ∧ FinW double b := by
  have hd : double.add a b = some r := h
  unfold Format.add at hd
  rcases kinds64 a with ha | ⟨s, ha, _⟩ | ha
  · rcases kinds64 b with hb | ⟨s, hb, _⟩ | hb
    · exact ⟨ha, hb⟩
    · exfalso
      obtain ⟨m, i, ex, _⟩ := read_fin double ha
      rw [ex, hb] at hd
      simp only [Datum.sum, Option.map_some, Option.some.injEq] at hd
      subst hd
      revert hr; unfold FinW rg; cases s <;> decide +kernel
    · rw [floatBits_nan_r hb] at h; cases h
  · rcases kinds64 b with hb | ⟨s2, hb, _⟩ | hb
    · exfalso
      obtain ⟨m, i, ex, _⟩ := read_fin double hb
      rw [ex, ha] at hd
      simp only [Datum.sum, Option.map_some, Option.some.injEq] at hd
      subst hd
      revert hr; unfold FinW rg; cases s <;> decide +kernel
    · exfalso
      rw [ha, hb] at hd
      simp only [Datum.sum] at hd
      split at hd
      · simp only [Option.map_some, Option.some.injEq] at hd
        subst hd
        revert hr; unfold FinW rg; cases s <;> decide +kernel
      · simp at hd
    · rw [floatBits_nan_r hb] at h; cases h
  · rw [floatBits_nan_l ha] at h; cases h
/-- A number widened, with one not-a-number. -/
def wx (a : Nat) : Nat := cop .f32 a .f64
theorem wx_fin {a : Nat} (h : FinW double (wx a)) : (V double (wx a)).natAbs ≤ M64 := by
  rcases kinds32 a with ha | ⟨s, ha, _⟩ | ha
  · obtain ⟨r, hr, hrr⟩ := widen_rnd ha
    have e : wx a = can .f64 r := by unfold wx cop; rw [hr]
    rw [can_of_not (fin_not_nan (k := .f64) hrr.fin)] at e
    rw [e]
    obtain ⟨c, hc1, hc2⟩ := ck 1 (by omega)
    rw [Nat.one_mul] at hc2
    have hsw := inf_lt_sw double
    have hf : ∀ s, FinW double (double.word s c) := fun s => by unfold FinW; rw [rg_word double s (by omega)]; exact hc1
    have hv : ∀ s, V double (double.word s c) = sg s M64 := fun s => by rw [V_word double s (by omega), hc2]
    have hbd : (V single a).natAbs * 2 ^ 925 ≤ M64 := by
      rw [← m64_is]
      refine Nat.mul_le_mul_right _ ?_
      unfold V
      rw [sg_abs]
      refine mv_mono single ?_
      have := ha
      unfold FinW at this
      rw [inf32] at this
      omega
    have h1 := hrr.le _ (hf false)
    have h2 := hrr.ge _ (hf true)
    rw [hv, Int.pow_zero, Int.mul_one] at h1 h2
    have hnum : (V single a * 2 ^ 925).natAbs = (V single a).natAbs * 2 ^ 925 := by rw [Int.natAbs_mul, pow_cast, Int.natAbs_natCast]
    rw [← hnum] at hbd
    generalize V single a * 2 ^ 925 = N at *
    simp only [sg, Bool.false_eq_true, if_false, if_true] at h1 h2
    have h1' := h1 (by omega)
    have h2' := h2 (by omega)
    omega
  · exfalso
    have e : floatToFloatBits .f32 a .f64 = some (FloatKind.f64.encode (.infinity s)) := by
      unfold floatToFloatBits
      rw [if_neg (by decide)]
      show (match single.read a with | .nan _ _ => none | .infinity s => some (FloatKind.f64.encode (.infinity s)) | .number s m e => if (FloatKind.f64.decode (FloatKind.f64.encode (.number s m e))).isInfinity then none else some (FloatKind.f64.encode (.number s m e))) = _
      rw [ha]
    have e2 : wx a = can .f64 (FloatKind.f64.encode (.infinity s)) := by unfold wx cop; rw [e]
    rw [e2] at h
    revert h; unfold FinW rg; cases s <;> decide +kernel
  · exfalso
    have e4 : floatToFloatBits .f32 a .f64 = none := by
      unfold floatToFloatBits
      rw [if_neg (by decide)]
      have h' : (FloatKind.f32.decode a).isNaN = true := ha
      revert h'
      cases FloatKind.f32.decode a <;> simp [Datum.isNaN]
    have e2 : wx a = nan .f64 := by unfold wx cop; rw [e4]
    rw [e2] at h
    revert h; unfold FinW rg; decide +kernel
/-- The sum of the first k numbers, with one not-a-number. -/
def sumC (x : Nat → Nat) : Nat → Nat
  | 0 => 0
  | k + 1 => fop .add .f64 (sumC x k) (wx (x k))
theorem sum_bd (x : Nat → Nat) (k : Nat) (hk : k ≤ 129) (h : FinW double (sumC x k)) : (V double (sumC x k)).natAbs ≤ k * M64 := by
  induction k with
  | zero => rw [show sumC x 0 = 0 from rfl, V_zero]; simp
  | succ k ih =>
    have e : sumC x (k + 1) = fop .add .f64 (sumC x k) (wx (x k)) := rfl
    rw [e] at h ⊢
    cases hb : floatBits .add .f64 (sumC x k) (wx (x k)) with
    | none =>
      exfalso
      have : fop .add .f64 (sumC x k) (wx (x k)) = nan .f64 := by unfold fop; rw [hb]
      rw [this] at h
      revert h; unfold FinW rg; decide +kernel
    | some r =>
      have e2 : fop .add .f64 (sumC x k) (wx (x k)) = can .f64 r := by unfold fop; rw [hb]
      rw [e2] at h ⊢
      have hn : isNaN .f64 r = false := by
        cases hn : isNaN .f64 r
        · rfl
        · exfalso
          rw [can_of_nan hn] at h
          revert h; unfold FinW rg; decide +kernel
      rw [can_of_not hn] at h ⊢
      obtain ⟨fa, fb⟩ := add_fin hb h
      have ha := ih (by omega) fa
      have hw := wx_fin fb
      obtain ⟨c, hc1, hc2⟩ := ck (k + 1) hk
      have hsum : (V double (sumC x k) + V double (wx (x k))).natAbs ≤ (k + 1) * M64 := by
        rw [Nat.add_mul, Nat.one_mul]; omega
      obtain ⟨r', hr', hrr⟩ := add_rnd double fa fb hc1 (by rw [hc2]; exact hsum)
      have : r' = r := Option.some.inj (hr'.symm.trans hb)
      subst this
      have hsw := inf_lt_sw double
      have hf : ∀ s, FinW double (double.word s c) := fun s => by unfold FinW; rw [rg_word double s (by omega)]; exact hc1
      have hv : ∀ s, V double (double.word s c) = sg s ((k + 1) * M64) := fun s => by rw [V_word double s (by omega), hc2]
      have h1 := hrr.le _ (hf false)
      have h2 := hrr.ge _ (hf true)
      rw [hv, Int.pow_zero, Int.mul_one] at h1 h2
      generalize V double (sumC x k) + V double (wx (x k)) = N at *
      simp only [sg, Bool.false_eq_true, if_false, if_true] at h1 h2
      have h1' := h1 (by omega)
      have h2' := h2 (by omega)
      omega

/-! ## the mean -/
theorem quo_fin {a b r : Nat} (h : floatBits .quo .f64 a b = some r) (hr : FinW double r) (hb : FinW double b) : FinW double a := by
  have hd : double.div a b = some r := h
  unfold Format.div at hd
  rcases kinds64 a with ha | ⟨s, ha, _⟩ | ha
  · exact ha
  · exfalso
    obtain ⟨m, i, ex, _⟩ := read_fin double hb
    rw [ex, ha] at hd
    simp only [Datum.quotient, Option.map_some, Option.some.injEq] at hd
    subst hd
    revert hr
    generalize (s ^^ sgn double b) = t
    unfold FinW rg; cases t <;> decide +kernel
  · rw [floatBits_nan_l ha] at h; cases h
theorem fits_inf {r : Nat} {s : Bool} (h : double.read r = .infinity s) : Fits .f64 r .f32 := by
  right
  unfold floatToFloatBits
  rw [if_neg (by decide)]
  show (match double.read r with | .nan _ _ => none | .infinity s => some (FloatKind.f32.encode (.infinity s)) | .number s m e => if (FloatKind.f32.decode (FloatKind.f32.encode (.number s m e))).isInfinity then none else some (FloatKind.f32.encode (.number s m e))).isSome = true
  rw [h]; rfl
def meanC (x : Nat → Nat) (n : Nat) : Nat := fop .quo .f64 (sumC x n) (floatOfInt .f64 n)
theorem mean_fits (x : Nat → Nat) (n : Nat) (h1 : 1 ≤ n) (h2 : n ≤ 129) : Fits .f64 (meanC x n) .f32 := by
  have e0 : floatOfInt .f64 (n : Int) = double.nearest (decide ((n : Int) < 0)) (n : Int).natAbs 0 := rfl
  obtain ⟨f1, f2⟩ := float_int (decide ((n : Int) < 0)) (n : Int).natAbs (by omega)
  rw [← e0] at f1 f2
  have f3 : (V double (floatOfInt .f64 (n : Int))).natAbs = n * 2 ^ D64 := by rw [f2, sg_abs, q64_D, Int.natAbs_natCast]
  unfold meanC
  cases hb : floatBits .quo .f64 (sumC x n) (floatOfInt .f64 n) with
  | none =>
    left
    have : fop .quo .f64 (sumC x n) (floatOfInt .f64 n) = nan .f64 := by unfold fop; rw [hb]
    rw [this]; exact isNaN_nan _
  | some r =>
    have e2 : fop .quo .f64 (sumC x n) (floatOfInt .f64 n) = can .f64 r := by unfold fop; rw [hb]
    rw [e2]
    rcases kinds64 r with hr | ⟨s, hr, _⟩ | hr
    · rw [can_of_not (fin_not_nan (k := .f64) hr)]
      have hs := quo_fin hb hr f1
      have hsb := sum_bd x n h2 hs
      have hP := Nat.two_pow_pos D64
      obtain ⟨r', hr', hf, hv⟩ := quo_le hs f1 (by rw [f3]; exact Nat.le_mul_of_pos_left _ h1)
        (Nat.lt_of_le_of_lt hsb (Nat.lt_of_le_of_lt (Nat.mul_le_mul_right _ h2) (by decide +kernel)))
        (by
          rw [f3]
          refine Nat.le_trans (Nat.mul_le_mul_right _ hsb) (Nat.le_of_eq ?_)
          generalize M64 = M; generalize 2 ^ D64 = P
          rw [Nat.mul_comm n M, Nat.mul_assoc])
      have : r' = r := Option.some.inj (hr'.symm.trans hb)
      subst this
      obtain ⟨r2, hr2, _⟩ := narrow_rnd (hi := 2139095039) hf (by rw [inf32]; decide) (by rw [m64_is]; exact hv)
      right; rw [hr2]; rfl
    · have hn : isNaN .f64 r = false := by show (double.read r).isNaN = false; rw [hr]; rfl
      rw [can_of_not hn]
      exact fits_inf hr
    · left; rw [isNaN_can]; exact hr
/-- The mean, with one not-a-number. -/
def mnC (x : Nat → Nat) (n : Nat) : Nat := cop .f64 (meanC x n) .f32
theorem mn_can {x : Nat → Nat} {n v : Nat} (h1 : 1 ≤ n) (h2 : n ≤ 129) (h : can .f64 v = meanC x n) (w : World) : can .f32 (cval .f64 w v .f32) = mnC x n := by
  have hf := mean_fits x n h1 h2
  rw [← h] at hf
  have hfv : Fits .f64 v .f32 := by
    cases hn : isNaN .f64 v
    · rw [can_of_not hn] at hf; exact hf
    · exact .inl hn
  unfold mnC
  rw [can_cval hfv (by decide), ← h, cop_can (by decide)]
theorem mean_can {x : Nat → Nat} {n v : Nat} (h : can .f64 v = sumC x n) (w : World) : can .f64 (fval .quo .f64 w v (floatOfInt .f64 n)) = meanC x n := by
  unfold meanC
  rw [can_fval, ← h, fop_can_l]
theorem step_can {x : Nat → Nat} {k v : Nat} (h : can .f64 v = sumC x k) (w w' : World) : can .f64 (fval .add .f64 w v (cval .f32 w' (x k) .f64)) = sumC x (k + 1) := by
  show _ = fop .add .f64 (sumC x k) (wx (x k))
  rw [can_fval, ← h, fop_can_l, ← fop_can_r, can_cval (wide_fits _) (by decide)]
  rfl
/-- The answers. -/
def mnR (x : Nat → Nat) (n : Nat) : Nat × Bool := if 1 ≤ n ∧ n ≤ 129 then (mnC x n, true) else (can .f32 0, false)
theorem same_mean {a b m : Nat} (ha : can .f32 a = m) (hb : can .f32 b = m) (w w' : World) : can .f64 (cval .f32 w a .f64) = can .f64 (cval .f32 w' b .f64) := by
  rw [can_cval (wide_fits _) (by decide), can_cval (wide_fits _) (by decide), ← cop_can (b := a) (by decide), ha, ← hb, cop_can (by decide)]
theorem sum0 (x : Nat → Nat) : can .f64 0 = sumC x 0 := by show can .f64 0 = 0; decide +kernel

end Go.Proofs.Ytkjmlpdbnnmlhab.meanNum
