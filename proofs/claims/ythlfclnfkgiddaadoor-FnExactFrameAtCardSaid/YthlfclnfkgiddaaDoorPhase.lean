/- What is left of a number when its whole part is taken away; a number less 0; quarters; bounds of a sine. -/
import Derived.Test.YthlfclnfkgiddaaDoorFloats
import Derived.Test.YthlfclnfkgiddaaDoorRound
import Derived.Test.YthlfclnfkgiddaaDoorValues
import Derived.Test.YthlfclnfkgiddaaDoorConv
import Derived.Test.YthlfclnfkgiddaaDoorFloat2
import Derived.Test.YthlfclnfkgiddaaDoorFloat3
namespace Go.Proofs.YthlfclnfkgiddaaDoor.phase
set_option linter.unusedVariables false
open Go Ieee
open Go.Proofs.YthlfclnfkgiddaaDoor.floats Go.Proofs.YthlfclnfkgiddaaDoor.round Go.Proofs.YthlfclnfkgiddaaDoor.values Go.Proofs.YthlfclnfkgiddaaDoor.conv Go.Proofs.YthlfclnfkgiddaaDoor.float2 Go.Proofs.YthlfclnfkgiddaaDoor.float3

/-- Between c and d, told by their words. -/
theorem rnd_between {f : Format} {num : Int} {d r a b : Nat} (h : Rnd f num d r) (ha : FinW f a) (hb : FinW f b) (h1 : V f a * 2 ^ d ≤ num) (h2 : num ≤ V f b * 2 ^ d) : V f a ≤ V f r ∧ V f r ≤ V f b :=
  ⟨h.ge a ha h1, h.le b hb h2⟩

theorem sg_cases (s : Bool) (n : Nat) : (s = false ∧ sg s n = (n : Int)) ∨ (s = true ∧ sg s n = -(n : Int)) := by cases s <;> simp [sg]

/-- THE WHOLE PART: an integer of few digits. -/
theorem whole {x : Nat} (h : FinW double x) (h2 : (V double x).natAbs < 4503599627370496 * (4 * q64)) :
    ∃ n : Int, (double.read x).toInt .zero = some n ∧ -4503599627370496 ≤ n ∧ n ≤ 4503599627370496 ∧ FinW double (FloatKind.f64.nearest n) ∧
      ((0 ≤ V double x ∧ 0 ≤ V double x - V double (FloatKind.f64.nearest n) ∧ V double x - V double (FloatKind.f64.nearest n) ≤ 4 * (q64 : Int)) ∨
       (V double x < 0 ∧ -(4 * (q64 : Int)) ≤ V double x - V double (FloatKind.f64.nearest n) ∧ V double x - V double (FloatKind.f64.nearest n) ≤ 0)) ∧
      ((V double x).natAbs < 4 * q64 → n = 0) := by
  obtain ⟨q, hq, b1, b2⟩ := toInt_fin h
  have hV : V double x = sg (sgn double x) (mv double (rg double x)) := rfl
  rw [hV, sg_abs] at h2
  have hp := q64_pos
  generalize mv double (rg double x) = m at *
  generalize sgn double x = s at *
  have hqs : q < 4503599627370496 := by
    refine Nat.lt_of_mul_lt_mul_right (a := 4 * q64) (Nat.lt_of_le_of_lt b1 h2)
  have e52 : (2 : Nat) ^ 52 = 4503599627370496 := by decide
  refine ⟨sg s q, hq, ?_, ?_, ?_⟩
  · rcases sg_cases s q with ⟨_, e⟩ | ⟨_, e⟩ <;> rw [e] <;> omega
  · rcases sg_cases s q with ⟨_, e⟩ | ⟨_, e⟩ <;> rw [e] <;> omega
  · have hn : FloatKind.f64.nearest (sg s q) = double.nearest (decide (sg s q < 0)) q 0 := by
      unfold FloatKind.nearest
      rw [sg_abs]
      rfl
    obtain ⟨f1, f2⟩ := float_int (decide (sg s q < 0)) q (by omega)
    rw [hn, hV]
    rw [f2]
    refine ⟨f1, ?_⟩
    have hsg : sg (decide (sg s q < 0)) (q * (4 * q64)) = sg s (q * (4 * q64)) := by
      rcases sg_cases s q with ⟨es, e⟩ | ⟨es, e⟩
      · rw [e, es]
        have : ¬ ((q : Int) < 0) := by omega
        simp [this]
      · rw [e, es]
        by_cases hq0 : q = 0
        · subst hq0; simp [sg]
        · have : (-(q : Int) < 0) := by omega
          rw [decide_eq_true this]
    rw [hsg]
    rw [Nat.add_mul, Nat.one_mul] at b2
    have hz : m < 4 * q64 → q = 0 := by
      intro hm
      rcases Nat.eq_zero_or_pos q with h0 | h0
      · exact h0
      · have := Nat.le_mul_of_pos_left (4 * q64) h0
        omega
    generalize q * (4 * q64) = Q at *
    rcases sg_cases s m with ⟨es, e⟩ | ⟨es, e⟩
    · subst es
      refine ⟨.inl ?_, fun hm => ?_⟩
      · simp only [sg, Bool.false_eq_true, if_false]; omega
      · rw [sg_abs] at hm; rw [hz hm]; rfl
    · subst es
      refine ⟨?_, fun hm => ?_⟩
      · simp only [sg, if_true]
        by_cases hm0 : m = 0
        · left; omega
        · right; omega
      · rw [sg_abs] at hm; rw [hz hm]; rfl

theorem q64_E : q64 = 2 ^ (D64 - 2) := by decide +kernel
theorem bd_of {x e : Nat} (h : FinW double x) (h2 : (V double x).natAbs ≤ 2 ^ e) : Bd x e := ⟨h, h2⟩
theorem four_q : 4 * q64 = 2 ^ D64 := q64_D.symm

/-- A number less its whole part. -/
theorem frac0 {x : Nat} (h : FinW double x) (h2 : (V double x).natAbs < 4503599627370496 * (4 * q64)) :
    ∃ (n : Int) (r : Nat), (double.read x).toInt .zero = some n ∧ -9223372036854775808 ≤ n ∧ n ≤ 9223372036854775807 ∧ floatBits .sub .f64 x (FloatKind.f64.nearest n) = some r ∧ FinW double r ∧ -(4 * (q64 : Int)) ≤ V double r ∧ V double r ≤ 4 * (q64 : Int) := by
  obtain ⟨n, hn, h3, h4, hf, hb, _⟩ := whole h h2
  obtain ⟨r, hr, hrr⟩ := sub_rnd double h hf (hi := pw (D64 + 1)) (pw_inf (by rw [D64_is]; decide)) (by
    rw [mv_pw (by rw [D64_is]; decide), pow_succ', ← four_q]
    omega)
  have e1 : V double 4607182418800017408 * 2 ^ 0 = 4 * (q64 : Int) := by rw [V_one]; omega
  have hm : FinW double (double.word true 4607182418800017408) := by unfold FinW; decide +kernel
  have em : V double (double.word true 4607182418800017408) * 2 ^ 0 = -(4 * (q64 : Int)) := by
    have : V double (double.word true 4607182418800017408) = -(4 * (q64 : Int)) := by decide +kernel
    rw [this]; omega
  obtain ⟨b1, b2⟩ := rnd_between hrr hm F_one (by rw [em]; omega) (by rw [e1]; omega)
  refine ⟨n, r, hn, by omega, by omega, hr, hrr.fin, ?_, ?_⟩
  · have : V double (double.word true 4607182418800017408) = -(4 * (q64 : Int)) := by decide +kernel
    omega
  · rw [V_one] at b2; exact b2

/-- Raised by 1, where it is less than 0. -/
theorem plus_one {r : Nat} (h : FinW double r) (h1 : -(4 * (q64 : Int)) ≤ V double r) (h2 : V double r ≤ 0) :
    ∃ s, floatBits .add .f64 r 4607182418800017408 = some s ∧ FinW double s ∧ 0 ≤ V double s ∧ V double s ≤ 4 * (q64 : Int) := by
  obtain ⟨s, hs, hss⟩ := add_rnd double h F_one (hi := pw (D64 + 1)) (pw_inf (by rw [D64_is]; decide)) (by
    rw [mv_pw (by rw [D64_is]; decide), pow_succ', ← four_q, V_one]
    omega)
  have e1 : V double 4607182418800017408 * 2 ^ 0 = 4 * (q64 : Int) := by rw [V_one]; omega
  have e0 : V double 0 * 2 ^ 0 = 0 := by rw [V_zero]; omega
  obtain ⟨b1, b2⟩ := rnd_between hss F_zero F_one (by rw [e0, V_one]; omega) (by rw [e1, V_one]; omega)
  rw [V_zero] at b1
  rw [V_one] at b2
  exact ⟨s, hs, hss.fin, b1, b2⟩

/-- A quarter less: the bound goes down by a quarter. -/
theorem quarter_less {f k : Nat} (h : FinW double f) (hk : k ≤ 4) (h1 : (q64 : Int) ≤ V double f) (h2 : V double f ≤ (k : Int) * (q64 : Int)) :
    ∃ r, floatBits .sub .f64 f 4598175219545276416 = some r ∧ FinW double r ∧ 0 ≤ V double r ∧ V double r ≤ ((k : Int) - 1) * (q64 : Int) := by
  have hp := q64_pos
  obtain ⟨r, hr, hrr⟩ := sub_rnd double h F_quarter (hi := pw (D64 + 1)) (pw_inf (by rw [D64_is]; decide)) (by
    rw [mv_pw (by rw [D64_is]; decide), pow_succ', ← four_q, V_quarter]
    have : (k : Int) * (q64 : Int) ≤ 4 * (q64 : Int) := Int.mul_le_mul_of_nonneg_right (by omega) (by omega)
    omega)
  have e0 : V double 0 * 2 ^ 0 = 0 := by rw [V_zero]; omega
  have key : ∀ c : Nat, FinW double c → V double c = ((k : Int) - 1) * (q64 : Int) → 0 ≤ V double r ∧ V double r ≤ ((k : Int) - 1) * (q64 : Int) := by
    intro c hc hv
    have e1 : V double c * 2 ^ 0 = ((k : Int) - 1) * (q64 : Int) := by rw [hv]; simp
    obtain ⟨b1, b2⟩ := rnd_between hrr F_zero hc (by rw [e0, V_quarter]; omega) (by rw [e1, V_quarter, Int.sub_mul]; omega)
    rw [V_zero] at b1
    rw [hv] at b2
    exact ⟨b1, b2⟩
  refine ⟨r, hr, hrr.fin, ?_⟩
  have hk1 : 1 ≤ k := by
    rcases Nat.eq_zero_or_pos k with h0 | h0
    · subst h0; simp at h2; omega
    · exact h0
  obtain rfl | rfl | rfl | rfl : k = 1 ∨ k = 2 ∨ k = 3 ∨ k = 4 := by omega
  · exact key 0 F_zero (by rw [V_zero]; simp)
  · exact key _ F_quarter (by rw [V_quarter]; simp)
  · exact key _ F_half (by rw [V_half]; simp)
  · exact key _ F_34 (by rw [V_34]; simp)

/-- What is left to a quarter. -/
theorem to_quarter {f : Nat} (h : FinW double f) (h1 : 0 ≤ V double f) (h2 : V double f ≤ (q64 : Int)) :
    ∃ r, floatBits .sub .f64 4598175219545276416 f = some r ∧ FinW double r ∧ 0 ≤ V double r ∧ V double r ≤ (q64 : Int) := by
  have hp := q64_pos
  obtain ⟨r, hr, hrr⟩ := sub_rnd double F_quarter h (hi := pw (D64 + 1)) (pw_inf (by rw [D64_is]; decide)) (by
    rw [mv_pw (by rw [D64_is]; decide), pow_succ', ← four_q, V_quarter]
    omega)
  have e0 : V double 0 * 2 ^ 0 = 0 := by rw [V_zero]; omega
  have e1 : V double 4598175219545276416 * 2 ^ 0 = (q64 : Int) := by rw [V_quarter]; omega
  obtain ⟨b1, b2⟩ := rnd_between hrr F_zero F_quarter (by rw [e0, V_quarter]; omega) (by rw [e1, V_quarter]; omega)
  rw [V_zero] at b1
  rw [V_quarter] at b2
  exact ⟨r, hr, hrr.fin, b1, b2⟩

theorem mv_zero_iff {r : Nat} (h : mv double r = 0) : r = 0 := by
  unfold mv at h
  have hb : 0 < double.binade := Nat.two_pow_pos _
  split at h
  · exact h
  · exfalso
    have h1 := Nat.two_pow_pos (r / double.binade - 1)
    have h2 := Nat.mul_pos (show 0 < double.binade + r % double.binade by omega) h1
    omega
theorem nearest_self (s : Bool) {r : Nat} (h : r < double.infRung) : double.nearest s (mv double r) double.leastPlace = double.word s r := by
  by_cases hz : mv double r = 0
  · rw [hz, nearest_zero, mv_zero_iff hz]
  · have a := rung_le double s (mag := mv double r) (place := double.leastPlace) hz (p := 0) (d := 0) (r := r) (by simp) (Nat.le_refl _)
    have b := le_rung double s (mag := mv double r) (place := double.leastPlace) hz (p := 0) (d := 0) (r := r) (by simp) (Nat.le_refl _)
    rw [nearest_rung double s _ hz, Nat.le_antisymm a b, Nat.min_eq_left (Nat.le_of_lt h)]

/-- A NUMBER LESS 0 IS THAT NUMBER, its sign too. -/
theorem less_zero {x : Nat} (h : FinW double x) (hx : x < 2 * double.signWeight) : floatBits .sub .f64 x 0 = some x := by
  obtain ⟨m, e, ex, vx⟩ := read_fin double h
  have e0 : double.read 0 = .number false 0 double.leastPlace := by decide +kernel
  show double.sub x 0 = some x
  unfold Format.sub
  rw [ex, e0]
  simp only [Datum.opposite, Datum.sum, Bool.not_false]
  have hmin : min (double.leastPlace + (e : Int)) double.leastPlace = double.leastPlace := by omega
  rw [hmin]
  have h1 : (double.leastPlace + (e : Int) - double.leastPlace).toNat = e := by omega
  have h2 : (double.leastPlace - double.leastPlace : Int).toNat = 0 := by omega
  rw [h1, h2, signed_sg, signed_sg]
  have h3 : sg true (0 * 2 ^ 0) = 0 := by simp [sg]
  rw [h3, Int.add_zero, sg_abs, vx]
  have hs : (if sg (sgn double x) (mv double (rg double x)) = 0 then (sgn double x && true) else decide (sg (sgn double x) (mv double (rg double x)) < 0)) = sgn double x := by
    generalize mv double (rg double x) = M
    rcases sg_cases (sgn double x) M with ⟨es, e⟩ | ⟨es, e⟩
    · rw [e, es]
      split
      · rfl
      · simp
    · rw [e, es]
      split
      · rfl
      · rename_i hne
        have : (-(M : Int) < 0) := by omega
        exact decide_eq_true this
  rw [hs]
  show some (double.nearest (sgn double x) (mv double (rg double x)) double.leastPlace) = some x
  rw [nearest_self _ h, word_parts double hx]

/-- What an operation leaves is a word. -/
theorem word_lt (neg : Bool) {r : Nat} (h : r < double.signWeight) : double.word neg r < 2 * double.signWeight := by
  unfold Format.word
  cases neg <;> simp <;> omega
theorem nearest_lt (neg : Bool) (mag : Nat) (place : Int) : double.nearest neg mag place < 2 * double.signWeight := by
  have hsw := inf_lt_sw double
  by_cases hm : mag = 0
  · subst hm
    rw [nearest_zero]
    exact word_lt neg (Nat.two_pow_pos _)
  · rw [nearest_rung double neg place hm]
    exact word_lt neg (Nat.lt_of_le_of_lt (Nat.min_le_right _ _) hsw)
theorem sub_lt {x y r : Nat} (hx : FinW double x) (hy : FinW double y) (h : floatBits .sub .f64 x y = some r) : r < 2 * double.signWeight := by
  obtain ⟨m, i, ex, _⟩ := read_fin double hx
  obtain ⟨n, j, ey, _⟩ := read_fin double hy
  have h' : double.sub x y = some r := h
  unfold Format.sub at h'
  rw [ex, ey] at h'
  simp only [Datum.opposite, Datum.sum, Option.map_some, Option.some.injEq] at h'
  rw [← h']
  exact nearest_lt _ _ _
theorem add_lt {x y r : Nat} (hx : FinW double x) (hy : FinW double y) (h : floatBits .add .f64 x y = some r) : r < 2 * double.signWeight := by
  obtain ⟨m, i, ex, _⟩ := read_fin double hx
  obtain ⟨n, j, ey, _⟩ := read_fin double hy
  have h' : double.add x y = some r := h
  unfold Format.add at h'
  rw [ex, ey] at h'
  simp only [Datum.sum, Option.map_some, Option.some.injEq] at h'
  rw [← h']
  exact nearest_lt _ _ _

/-! ## the sine -/
def bv (op : BinOp) (x y : Nat) : Nat := (floatBits op .f64 x y).getD 0
theorem bv_some {op : BinOp} {x y r : Nat} (h : floatBits op .f64 x y = some r) : floatBits op .f64 x y = some (bv op x y) ∧ bv op x y = r := by
  unfold bv; rw [h]; exact ⟨rfl, rfl⟩
def sz (y : Nat) : Nat := bv .mul y 4618760256179416344
def su (y : Nat) : Nat := bv .mul (sz y) (sz y)
/-- The number that a term is divided by. -/
def sc (k : Int) : Nat := FloatKind.f64.nearest (2 * k * (2 * k + 1))
/-- The series behind i terms, the eighth first. -/
def sp (u : Nat) : Nat → Nat
  | 0 => 4607182418800017408
  | i + 1 => bv .sub 4607182418800017408 (bv .quo (bv .mul u (sp u i)) (sc (8 - i)))
def sn (y : Nat) : Nat := bv .mul (sz y) (sp (su y) 8)

theorem F_2pi : Bd 4618760256179416344 (D64 + 3) := by
  refine ⟨by unfold FinW; decide +kernel, ?_⟩
  decide +kernel
theorem one_bd : Bd 4607182418800017408 D64 := by
  refine ⟨F_one, ?_⟩
  decide +kernel
theorem sc_ok (k : Int) (h1 : 1 ≤ k) (h2 : k ≤ 8) : FinW double (sc k) ∧ 2 ^ D64 ≤ (V double (sc k)).natAbs := by
  have hc : ∃ n : Nat, 2 * k * (2 * k + 1) = n ∧ 1 ≤ n ∧ n ≤ 272 := by
    obtain rfl | rfl | rfl | rfl | rfl | rfl | rfl | rfl : k = 1 ∨ k = 2 ∨ k = 3 ∨ k = 4 ∨ k = 5 ∨ k = 6 ∨ k = 7 ∨ k = 8 := by omega
    · exact ⟨6, by decide, by decide, by decide⟩
    · exact ⟨20, by decide, by decide, by decide⟩
    · exact ⟨42, by decide, by decide, by decide⟩
    · exact ⟨72, by decide, by decide, by decide⟩
    · exact ⟨110, by decide, by decide, by decide⟩
    · exact ⟨156, by decide, by decide, by decide⟩
    · exact ⟨210, by decide, by decide, by decide⟩
    · exact ⟨272, by decide, by decide, by decide⟩
  obtain ⟨n, hn, n1, n2⟩ := hc
  have e : sc k = double.nearest false n 0 := by
    unfold sc FloatKind.nearest
    rw [hn]
    have : ¬ ((n : Int) < 0) := by omega
    simp only [this, decide_false, Int.natAbs_natCast]
    rfl
  obtain ⟨f1, f2⟩ := float_int false n (Nat.le_trans n2 (by decide))
  rw [e, f2]
  refine ⟨f1, ?_⟩
  rw [sg_abs, four_q]
  exact Nat.le_mul_of_pos_left _ n1
theorem sz_ok {y : Nat} (h : Bd y (D64 - 2)) : floatBits .mul .f64 y 4618760256179416344 = some (sz y) ∧ Bd (sz y) (D64 + 1) := by
  obtain ⟨r, hr, hb, _⟩ := bd_mul (c := D64 + 1) h F_2pi (by rw [D64_is]; decide) (by rw [D64_is]; decide) (by rw [D64_is]; decide)
  obtain ⟨e1, e2⟩ := bv_some hr
  exact ⟨e1, by unfold sz; rw [e2]; exact hb⟩
theorem su_ok {y : Nat} (h : Bd y (D64 - 2)) : floatBits .mul .f64 (sz y) (sz y) = some (su y) ∧ Bd (su y) (D64 + 2) := by
  have hz := (sz_ok h).2
  obtain ⟨r, hr, hb, _⟩ := bd_mul (c := D64 + 2) hz hz (by omega) (by rw [D64_is]; decide) (by rw [D64_is]; decide)
  obtain ⟨e1, e2⟩ := bv_some hr
  exact ⟨e1, by unfold su; rw [e2]; exact hb⟩
theorem sp_step {u i : Nat} (hu : Bd u (D64 + 2)) (hi : i < 8) (hp : Bd (sp u i) (D64 + 4 * i)) :
    floatBits .mul .f64 u (sp u i) = some (bv .mul u (sp u i)) ∧ floatBits .quo .f64 (bv .mul u (sp u i)) (sc (8 - i)) = some (bv .quo (bv .mul u (sp u i)) (sc (8 - i))) ∧
      floatBits .sub .f64 4607182418800017408 (bv .quo (bv .mul u (sp u i)) (sc (8 - i))) = some (sp u (i + 1)) ∧ Bd (sp u (i + 1)) (D64 + 4 * (i + 1)) := by
  have hd := D64_is
  obtain ⟨r, hr, hb, _⟩ := bd_mul (c := D64 + (4 * i + 2)) hu hp (by omega) (by omega) (by omega)
  obtain ⟨e1, e2⟩ := bv_some hr
  rw [← e2] at hb
  obtain ⟨c1, c2⟩ := sc_ok (8 - i) (by omega) (by omega)
  obtain ⟨r2, hr2, hb2⟩ := bd_quo hb c1 c2 (by omega) (by omega)
  obtain ⟨e3, e4⟩ := bv_some hr2
  rw [← e4] at hb2
  obtain ⟨r3, hr3, hb3, _⟩ := bd_sub (one_bd.mono (b := D64 + (4 * i + 2) + 1) (by omega)) hb2 (by omega) (by omega)
  obtain ⟨e5, e6⟩ := bv_some hr3
  refine ⟨e1, e3, e5, ?_⟩
  show Bd (bv .sub 4607182418800017408 (bv .quo (bv .mul u (sp u i)) (sc (8 - i)))) _
  rw [e6]
  exact hb3.mono (by omega)
theorem sp_ok {u : Nat} (hu : Bd u (D64 + 2)) : ∀ i, i ≤ 8 → Bd (sp u i) (D64 + 4 * i)
  | 0, _ => one_bd
  | i + 1, h => (sp_step hu (by omega) (sp_ok hu i (by omega))).2.2.2
theorem sn_ok {y : Nat} (h : Bd y (D64 - 2)) : floatBits .mul .f64 (sz y) (sp (su y) 8) = some (sn y) ∧ Bd (sn y) (D64 + 33) := by
  have hd := D64_is
  obtain ⟨r, hr, hb, _⟩ := bd_mul (c := D64 + 33) (sz_ok h).2 (sp_ok (su_ok h).2 8 (by omega)) (by omega) (by omega) (by omega)
  obtain ⟨e1, e2⟩ := bv_some hr
  exact ⟨e1, by unfold sn; rw [e2]; exact hb⟩

end Go.Proofs.YthlfclnfkgiddaaDoor.phase
