/- What the words of a format stand for, as whole numbers of its least places; what each operation keeps. -/
import Derived.Test.YthlfclnfkgiddaaFloats
import Derived.Test.YthlfclnfkgiddaaRound
namespace Go.Proofs.Ythlfclnfkgiddaa.values
set_option linter.unusedVariables false
open Go Ieee
open Go.Proofs.Ythlfclnfkgiddaa.floats Go.Proofs.Ythlfclnfkgiddaa.round

def sgn (f : Format) (x : Nat) : Bool := x / f.signWeight % 2 == 1
def rg (f : Format) (x : Nat) : Nat := x % f.signWeight
def FinW (f : Format) (x : Nat) : Prop := rg f x < f.infRung
/-- a sign laid on a number -/
def sg (neg : Bool) (n : Nat) : Int := if neg then -(n : Int) else n
/-- the value, in least places -/
def V (f : Format) (x : Nat) : Int := sg (sgn f x) (mv f (rg f x))

theorem rg_word (f : Format) (neg : Bool) {r : Nat} (h : r < f.signWeight) : rg f (f.word neg r) = r := by
  unfold rg Format.word
  cases neg
  · exact Nat.mod_eq_of_lt h
  · simp only [if_true]; rw [Nat.add_mod_left, Nat.mod_eq_of_lt h]
theorem sgn_word (f : Format) (neg : Bool) {r : Nat} (h : r < f.signWeight) : sgn f (f.word neg r) = neg := by
  have hp : 0 < f.signWeight := by omega
  unfold sgn Format.word
  cases neg
  · simp only [Bool.false_eq_true, if_false]; rw [Nat.div_eq_of_lt h]; rfl
  · simp only [if_true]; rw [Nat.add_div_left _ hp, Nat.div_eq_of_lt h]; rfl
theorem V_word (f : Format) (neg : Bool) {r : Nat} (h : r < f.signWeight) : V f (f.word neg r) = sg neg (mv f r) := by
  unfold V; rw [rg_word f neg h, sgn_word f neg h]

theorem mv_mono (f : Format) {a b : Nat} (h : a ≤ b) : mv f a ≤ mv f b := by
  have hb : 0 < f.binade := Nat.two_pow_pos _
  unfold mv
  by_cases h1 : b < f.binade
  · rw [if_pos h1, if_pos (by omega)]; exact h
  · rw [if_neg h1]
    by_cases h2 : a < f.binade
    · rw [if_pos h2]
      have := Nat.le_mul_of_pos_right (f.binade + b % f.binade) (Nat.two_pow_pos (b / f.binade - 1))
      omega
    · rw [if_neg h2]
      have ea := Nat.div_add_mod a f.binade
      have eb := Nat.div_add_mod b f.binade
      have la := Nat.mod_lt a hb
      have qa := (Nat.one_le_div_iff hb).2 (Nat.le_of_not_lt h2)
      have hq : a / f.binade ≤ b / f.binade := Nat.div_le_div_right h
      generalize a / f.binade = q at *
      generalize b / f.binade = s at *
      rcases Nat.lt_or_eq_of_le hq with hc | hc
      · obtain ⟨x, rfl⟩ := Nat.exists_eq_add_of_lt hc
        rw [show q + x + 1 - 1 = (x + 1) + (q - 1) from by omega, Nat.pow_add, ← Nat.mul_assoc]
        refine Nat.mul_le_mul_right _ ?_
        have h5 : f.binade * 2 ≤ (f.binade + b % f.binade) * 2 ^ (x + 1) := Nat.mul_le_mul (by omega) (by rw [Nat.pow_succ]; have := Nat.two_pow_pos x; omega)
        omega
      · subst hc
        refine Nat.mul_le_mul_right _ ?_
        omega

theorem mv_zero (f : Format) : mv f 0 = 0 := by
  unfold mv; rw [if_pos (show 0 < f.binade from Nat.two_pow_pos _)]

/-- A finite word, read. -/
theorem read_fin (f : Format) {x : Nat} (h : FinW f x) : ∃ m e : Nat, f.read x = .number (sgn f x) m (f.leastPlace + e) ∧ m * 2 ^ e = mv f (rg f x) := by
  unfold FinW rg at h
  unfold Format.read mv rg sgn
  dsimp only
  by_cases h1 : x % f.signWeight < f.binade
  · rw [if_pos h1, if_pos h1]
    exact ⟨x % f.signWeight, 0, by simp, by simp⟩
  · rw [if_neg h1, if_neg h1, if_pos h]
    exact ⟨_, _, rfl, rfl⟩

theorem not_nan (f : Format) {x : Nat} (h : FinW f x) : (f.read x).isNaN = false := by
  obtain ⟨m, e, hr, _⟩ := read_fin f h; rw [hr]; rfl
theorem fin_not_nan {k : FloatKind} {x : Nat} (h : FinW k.format x) : isNaN k x = false := not_nan _ h
theorem can_fin {k : FloatKind} {x : Nat} (h : FinW k.format x) : can k x = x := can_of_not (fin_not_nan h)

/-- r is a nearest word to num / 2 ^ d least places: it keeps every bound that the format has. -/
structure Rnd (f : Format) (num : Int) (d : Nat) (r : Nat) : Prop where
  fin : FinW f r
  le : ∀ c, FinW f c → num ≤ V f c * 2 ^ d → V f r ≤ V f c
  ge : ∀ c, FinW f c → V f c * 2 ^ d ≤ num → V f c ≤ V f r

theorem sg_mul (s : Bool) (n m : Nat) : sg s n * (m : Int) = sg s (n * m) := by
  cases s <;> simp [sg, Int.neg_mul]

theorem inf_lt_sw (f : Format) : f.infRung < f.signWeight := f.infRung_lt

/-- THE LAW OF ROUNDING. -/
theorem nearest_rnd (f : Format) (neg : Bool) (mag : Nat) (place : Int) {p d hi : Nat} (hp : place = f.leastPlace + p - d) (hhi : hi < f.infRung) (hb : mag * 2 ^ p ≤ mv f hi * 2 ^ d) :
    Rnd f (sg neg (mag * 2 ^ p)) d (f.nearest neg mag place) ∧ ∃ r, r ≤ hi ∧ f.nearest neg mag place = f.word neg r := by
  have hsw := inf_lt_sw f
  obtain ⟨r, hr, e, up, down⟩ : ∃ r, r ≤ hi ∧ f.nearest neg mag place = f.word neg r ∧ (∀ u, mag * 2 ^ p ≤ mv f u * 2 ^ d → mv f r ≤ mv f u) ∧ (∀ u, u < f.infRung → mv f u * 2 ^ d ≤ mag * 2 ^ p → mv f u ≤ mv f r) := by
    by_cases hm : mag = 0
    · subst hm
      refine ⟨0, Nat.zero_le _, nearest_zero _ _ _, fun u _ => by rw [mv_zero]; exact Nat.zero_le _, fun u _ hu => ?_⟩
      rw [Nat.zero_mul] at hu
      rw [mv_zero]
      have := Nat.le_mul_of_pos_right (mv f u) (Nat.two_pow_pos d)
      omega
    · have h1 := rung_le f neg hm hp hb
      refine ⟨rung f neg mag place, h1, ?_, fun u hu => mv_mono f (rung_le f neg hm hp hu), fun u _ hu => mv_mono f (le_rung f neg hm hp hu)⟩
      rw [nearest_rung f neg place hm, Nat.min_eq_left (by omega)]
  refine ⟨⟨?_, ?_, ?_⟩, r, hr, e⟩
  · unfold FinW; rw [e, rg_word f neg (by omega)]; omega
  · intro c hc h
    have hcs : (2 : Int) ^ d = ((2 ^ d : Nat) : Int) := by simp
    rw [e, V_word f neg (by omega)]
    unfold V at h ⊢
    rw [hcs, sg_mul] at h
    have hd := Nat.two_pow_pos d
    generalize sgn f c = s at h ⊢
    cases neg <;> cases s <;> simp only [sg, if_true, Bool.false_eq_true, if_false] at h ⊢
    · have := up (rg f c) (by omega)
      omega
    · have h0 : mag * 2 ^ p = 0 := by omega
      have := up 0 (by rw [h0]; exact Nat.zero_le _)
      rw [mv_zero] at this
      have h1 : mv f (rg f c) * 2 ^ d = 0 := by omega
      have h2 := Nat.le_mul_of_pos_right (mv f (rg f c)) hd
      omega
    · omega
    · have := down (rg f c) hc (by omega); omega
  · intro c hc h
    have hcs : (2 : Int) ^ d = ((2 ^ d : Nat) : Int) := by simp
    rw [e, V_word f neg (by omega)]
    unfold V at h ⊢
    rw [hcs, sg_mul] at h
    have hd := Nat.two_pow_pos d
    generalize sgn f c = s at h ⊢
    cases neg <;> cases s <;> simp only [sg, if_true, Bool.false_eq_true, if_false] at h ⊢
    · have := down (rg f c) hc (by omega); omega
    · omega
    · have h0 : mag * 2 ^ p = 0 := by omega
      have := up 0 (by rw [h0]; exact Nat.zero_le _)
      rw [mv_zero] at this
      have h1 : mv f (rg f c) * 2 ^ d = 0 := by omega
      have h2 := Nat.le_mul_of_pos_right (mv f (rg f c)) hd
      omega
    · have := up (rg f c) (by omega); omega

/-- A finite word, read and written again. -/
theorem word_parts (f : Format) {x : Nat} (h : x < 2 * f.signWeight) : f.word (sgn f x) (rg f x) = x := by
  have e := Nat.div_add_mod x f.signWeight
  unfold Format.word sgn rg
  have hp : 0 < f.signWeight := Nat.two_pow_pos _
  have hq : x / f.signWeight < 2 := by rw [Nat.div_lt_iff_lt_mul hp]; exact h
  rcases Nat.lt_or_ge (x / f.signWeight) 1 with h1 | h1
  · have h0 : x / f.signWeight = 0 := Nat.lt_one_iff.1 h1
    rw [h0] at e ⊢
    simp at e ⊢; exact e
  · have h0 : x / f.signWeight = 1 := Nat.le_antisymm (Nat.le_of_lt_succ hq) h1
    rw [h0] at e ⊢
    simp at e ⊢; exact e

/-! ## the operations -/
theorem signed_sg (s : Bool) (m e : Nat) : signed s m e = sg s (m * 2 ^ e) := by
  unfold signed sg; rw [Nat.shiftLeft_eq]
theorem sg_natAbs (t : Int) (s : Bool) (h : t = 0 ∨ s = decide (t < 0)) (n : Nat) : sg s (t.natAbs * n) = t * n := by
  rcases h with h | h
  · subst h; cases s <;> simp [sg]
  · subst h
    by_cases ht : t < 0
    · simp only [ht, decide_true, sg, if_true]
      rw [Int.natCast_mul, ← Int.neg_mul, Int.ofNat_natAbs_of_nonpos (by omega), Int.neg_neg]
    · simp only [ht, decide_false, sg, Bool.false_eq_true, if_false]
      rw [Int.natCast_mul, Int.natAbs_of_nonneg (by omega)]
theorem sg_pow (s : Bool) (m a b : Nat) : sg s (m * 2 ^ (a + b)) = sg s (m * 2 ^ a) * 2 ^ b := by
  rw [show (2 : Int) ^ b = ((2 ^ b : Nat) : Int) from by simp, sg_mul, Nat.pow_add, Nat.mul_assoc]

theorem V_read {f : Format} {x m e : Nat} (h2 : m * 2 ^ e = mv f (rg f x)) : V f x = sg (sgn f x) (m * 2 ^ e) := by unfold V; rw [h2]

theorem sum_number (f : Format) (s t : Bool) (m n i j : Nat) : ∃ (neg : Bool) (mag b : Nat), (Datum.number s m (f.leastPlace + i)).sum (.number t n (f.leastPlace + j)) = some (.number neg mag (f.leastPlace + b)) ∧ sg neg (mag * 2 ^ b) = sg s (m * 2 ^ i) + sg t (n * 2 ^ j) := by
  unfold Datum.sum
  dsimp only
  rcases Nat.le_total i j with h | h
  · obtain ⟨x, rfl⟩ := Nat.exists_eq_add_of_le h
    have e1 : min (f.leastPlace + i : Int) (f.leastPlace + (i + x : Nat)) = f.leastPlace + i := by omega
    have e2 : (f.leastPlace + i - (f.leastPlace + i) : Int).toNat = 0 := by omega
    have e3 : (f.leastPlace + (i + x : Nat) - (f.leastPlace + i) : Int).toNat = x := by omega
    rw [e1, e2, e3, signed_sg, signed_sg]
    refine ⟨_, _, i, rfl, ?_⟩
    rw [sg_natAbs]
    · rw [Int.add_mul, show ((2 ^ i : Nat) : Int) = 2 ^ i from by simp, Nat.add_comm i x, ← sg_pow, ← sg_pow, Nat.zero_add]
    · by_cases h0 : sg s (m * 2 ^ 0) + sg t (n * 2 ^ x) = 0
      · left; exact h0
      · right; rw [if_neg h0]
  · obtain ⟨x, rfl⟩ := Nat.exists_eq_add_of_le h
    have e1 : min (f.leastPlace + (j + x : Nat) : Int) (f.leastPlace + j) = f.leastPlace + j := by omega
    have e2 : (f.leastPlace + j - (f.leastPlace + j) : Int).toNat = 0 := by omega
    have e3 : (f.leastPlace + (j + x : Nat) - (f.leastPlace + j) : Int).toNat = x := by omega
    rw [e1, e2, e3, signed_sg, signed_sg]
    refine ⟨_, _, j, rfl, ?_⟩
    rw [sg_natAbs]
    · rw [Int.add_mul, show ((2 ^ j : Nat) : Int) = 2 ^ j from by simp, Nat.add_comm j x, ← sg_pow, ← sg_pow, Nat.zero_add]
    · by_cases h0 : sg s (m * 2 ^ x) + sg t (n * 2 ^ 0) = 0
      · left; exact h0
      · right; rw [if_neg h0]

theorem sg_abs (s : Bool) (n : Nat) : (sg s n).natAbs = n := by cases s <;> simp [sg]

/-- A SUM. -/
theorem add_rnd (f : Format) {x y hi : Nat} (hx : FinW f x) (hy : FinW f y) (hhi : hi < f.infRung) (hb : (V f x + V f y).natAbs ≤ mv f hi) :
    ∃ r, f.add x y = some r ∧ Rnd f (V f x + V f y) 0 r := by
  obtain ⟨m, i, ex, vx⟩ := read_fin f hx
  obtain ⟨n, j, ey, vy⟩ := read_fin f hy
  obtain ⟨neg, mag, b, es, vs⟩ := sum_number f (sgn f x) (sgn f y) m n i j
  have hV : V f x + V f y = sg neg (mag * 2 ^ b) := by rw [vs, V_read vx, V_read vy]
  refine ⟨f.nearest neg mag (f.leastPlace + b), ?_, ?_⟩
  · unfold Format.add; rw [ex, ey, es]; rfl
  · rw [hV] at hb ⊢
    rw [sg_abs] at hb
    exact (nearest_rnd f neg mag _ (p := b) (d := 0) (by simp) hhi (by simpa using hb)).1

theorem sg_not (s : Bool) (n : Nat) : sg (!s) n = - sg s n := by cases s <;> simp [sg]
/-- A DIFFERENCE. -/
theorem sub_rnd (f : Format) {x y hi : Nat} (hx : FinW f x) (hy : FinW f y) (hhi : hi < f.infRung) (hb : (V f x - V f y).natAbs ≤ mv f hi) :
    ∃ r, f.sub x y = some r ∧ Rnd f (V f x - V f y) 0 r := by
  obtain ⟨m, i, ex, vx⟩ := read_fin f hx
  obtain ⟨n, j, ey, vy⟩ := read_fin f hy
  obtain ⟨neg, mag, b, es, vs⟩ := sum_number f (sgn f x) (!sgn f y) m n i j
  have hV : V f x - V f y = sg neg (mag * 2 ^ b) := by rw [vs, V_read vx, V_read vy, sg_not]; rfl
  refine ⟨f.nearest neg mag (f.leastPlace + b), ?_, ?_⟩
  · unfold Format.sub; rw [ex, ey]; simp only [Datum.opposite]; rw [es]; rfl
  · rw [hV] at hb ⊢
    rw [sg_abs] at hb
    exact (nearest_rnd f neg mag _ (p := b) (d := 0) (by simp) hhi (by simpa using hb)).1

theorem sg_xor (s t : Bool) (m n : Nat) : sg (s ^^ t) (m * n) = sg s m * sg t n := by
  cases s <;> cases t <;> simp [sg, Int.neg_mul, Int.mul_neg]
/-- A PRODUCT: in units of the least place, times the least place. -/
theorem mul_rnd (f : Format) {x y hi D : Nat} (hD : f.leastPlace = -(D : Int)) (hx : FinW f x) (hy : FinW f y) (hhi : hi < f.infRung) (hb : (V f x * V f y).natAbs ≤ mv f hi * 2 ^ D) :
    ∃ r, f.mul x y = some r ∧ Rnd f (V f x * V f y) D r ∧ sgn f r = (sgn f x ^^ sgn f y) := by
  obtain ⟨m, i, ex, vx⟩ := read_fin f hx
  obtain ⟨n, j, ey, vy⟩ := read_fin f hy
  have hV : V f x * V f y = sg (sgn f x ^^ sgn f y) ((m * n) * 2 ^ (i + j)) := by
    rw [V_read vx, V_read vy, ← sg_xor, Nat.pow_add]; congr 1; rw [Nat.mul_assoc, Nat.mul_assoc, Nat.mul_left_comm n]
  rw [hV] at hb ⊢
  rw [sg_abs] at hb
  have hh := nearest_rnd f (sgn f x ^^ sgn f y) (m * n) (f.leastPlace + i + (f.leastPlace + j)) (p := i + j) (d := D) (by omega) hhi hb
  refine ⟨f.nearest (sgn f x ^^ sgn f y) (m * n) (f.leastPlace + i + (f.leastPlace + j)), ?_, hh.1, ?_⟩
  · unfold Format.mul; rw [ex, ey]; rfl
  · obtain ⟨r, hr, e⟩ := hh.2
    have := inf_lt_sw f
    rw [e, sgn_word f _ (by omega)]

end Go.Proofs.Ythlfclnfkgiddaa.values
