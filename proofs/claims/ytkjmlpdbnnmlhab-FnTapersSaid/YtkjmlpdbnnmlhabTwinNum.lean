/- Turns that differ by whole ones have the same point of the circle, exactly. -/
import Derived.Test.YtkjmlpdbnnmlhabRows
import Derived.Test.YtkjmlpdbnnmlhabFloats
import Derived.Test.YtkjmlpdbnnmlhabRound
import Derived.Test.YtkjmlpdbnnmlhabValues
import Derived.Test.YtkjmlpdbnnmlhabConv
import Derived.Test.YtkjmlpdbnnmlhabFWalk
import Derived.Test.YtkjmlpdbnnmlhabFinWalk
import Derived.Test.YtkjmlpdbnnmlhabFloat2
import Derived.Test.YtkjmlpdbnnmlhabFloat3
import Derived.Test.YtkjmlpdbnnmlhabPhase
import Derived.Test.YtkjmlpdbnnmlhabSine
import Derived.Test.YtkjmlpdbnnmlhabPhasor
import Derived.Test.YtkjmlpdbnnmlhabListC
import Derived.Test.YtkjmlpdbnnmlhabSteerNum
import Derived.WalkKit
import Derived.ProofKit
import Derived.OpenShut
import Derived.ShutString
import Derived.ChangeOld
import Derived.Below
import Derived.Lib.Hide
import Derived.BigQuiet
import Derived.Deep.QuietTactic
import Derived.WalkLawsBesides
import Derived.Outline
namespace Go.Proofs.Ytkjmlpdbnnmlhab.twinNum
open Go.ChangeShapes Go.WideShapes Go.ChangeAt Go.RowKit
open Go.ChangeMaps (open_string shut_string)
set_option linter.unusedVariables false
open Go Ieee
open Go.Proofs.Ytkjmlpdbnnmlhab.floats Go.Proofs.Ytkjmlpdbnnmlhab.round Go.Proofs.Ytkjmlpdbnnmlhab.values Go.Proofs.Ytkjmlpdbnnmlhab.conv Go.Proofs.Ytkjmlpdbnnmlhab.float2 Go.Proofs.Ytkjmlpdbnnmlhab.float3 Go.Proofs.Ytkjmlpdbnnmlhab.phase Go.Proofs.Ytkjmlpdbnnmlhab.sine Go.Proofs.Ytkjmlpdbnnmlhab.phasor Go.Proofs.Ytkjmlpdbnnmlhab.steerNum

/-! ## words by their values -/
theorem mv_step {r : Nat} : mv double r < mv double (r + 1) := by
  have hb : 0 < double.binade := Nat.two_pow_pos _
  unfold mv
  generalize double.binade = B at *
  by_cases h1 : r + 1 < B
  · rw [if_pos h1, if_pos (by omega)]; omega
  · rw [if_neg h1]
    by_cases h2 : r < B
    · rw [if_pos h2]
      have e : r + 1 = B := by omega
      rw [e, Nat.mod_self, Nat.div_self hb]
      simp; omega
    · rw [if_neg h2]
      have er := Nat.div_add_mod r B
      have hm := Nat.mod_lt r hb
      have hq := (Nat.one_le_div_iff hb).2 (Nat.le_of_not_lt h2)
      obtain ⟨q, hqq⟩ : ∃ q, r / B = q + 1 := ⟨r / B - 1, by omega⟩
      rw [hqq] at er ⊢
      generalize r % B = m at *
      rw [Nat.add_sub_cancel]
      have e2 : r + 1 = (m + 1) + B * (q + 1) := by omega
      by_cases h3 : m + 1 < B
      · rw [e2, Nat.add_mul_mod_self_left, Nat.mod_eq_of_lt h3, Nat.add_mul_div_left _ _ hb, Nat.div_eq_of_lt h3]
        rw [show 0 + (q + 1) - 1 = q by omega]
        exact Nat.mul_lt_mul_of_pos_right (by omega) (Nat.two_pow_pos _)
      · have e3 : m + 1 = B := by omega
        rw [e2, e3, Nat.add_mul_mod_self_left, Nat.mod_self, Nat.add_mul_div_left _ _ hb, Nat.div_self hb]
        rw [show 1 + (q + 1) - 1 = q + 1 by omega, Nat.add_zero, Nat.pow_succ, Nat.mul_comm (2 ^ q), ← Nat.mul_assoc]
        exact Nat.mul_lt_mul_of_pos_right (by omega) (Nat.two_pow_pos _)
theorem mv_strict {a b : Nat} (h : a < b) : mv double a < mv double b := Nat.lt_of_lt_of_le mv_step (mv_mono double h)
theorem mv_inj {a b : Nat} (h : mv double a = mv double b) : a = b := by
  rcases Nat.lt_trichotomy a b with h1 | h1 | h1
  · have := mv_strict h1; omega
  · exact h1
  · have := mv_strict h1; omega
/-- Two words with the same value that is not 0. -/
theorem word_inj {x y : Nat} (hx : x < 2 * double.signWeight) (hy : y < 2 * double.signWeight) (h : V double x = V double y) (h0 : V double x ≠ 0) : x = y := by
  rw [← word_parts double hx, ← word_parts double hy]
  unfold V at h h0
  have hm : mv double (rg double x) = mv double (rg double y) := by
    have := congrArg Int.natAbs h
    rwa [sg_abs, sg_abs] at this
  have hs : sgn double x = sgn double y := by
    rw [hm] at h h0
    rcases sg_cases (sgn double x) (mv double (rg double y)) with ⟨e1, e2⟩ | ⟨e1, e2⟩ <;> rcases sg_cases (sgn double y) (mv double (rg double y)) with ⟨e3, e4⟩ | ⟨e3, e4⟩
    · rw [e1, e3]
    · rw [e2, e4] at h; rw [e2] at h0; omega
    · rw [e2, e4] at h; rw [e2] at h0; omega
    · rw [e1, e3]
  rw [hs, mv_inj hm]

/-- A few digits at a place: exactly a word. -/
theorem float_at (neg : Bool) (n p : Nat) (h : n ≤ 2 ^ 52) (p1 : 53 ≤ p) (p2 : p ≤ D64) : ∃ c, FinW double c ∧ c < 2 * double.signWeight ∧ V double c = sg neg (n * 2 ^ p) := by
  have hh := nearest_rnd double neg n (double.leastPlace + p) (p := p) (d := 0) (hi := pw (52 + D64)) (by omega) (pw_inf (by rw [D64_is]; omega)) (by
    rw [mv_pw (by omega), Nat.pow_zero, Nat.mul_one, Nat.pow_add]
    exact Nat.mul_le_mul h (Nat.pow_le_pow_right (by omega) p2))
  refine ⟨double.nearest neg n (double.leastPlace + p), hh.1.fin, nearest_lt _ _ _, ?_⟩
  by_cases hn : n = 0
  · subst hn
    rw [nearest_zero, V_word double neg (by rw [sw_pow]; decide), mv_zero, Nat.zero_mul]
  · obtain ⟨L, K, eq, up, down, top, low⟩ := rung_facts double neg (mag := n) (place := double.leastPlace + p) hn (p := p) (d := 0) (by omega)
    simp only [Nat.pow_zero, Nat.mul_one] at up down top low
    rw [bi_pow] at eq top low
    have hLD : L ≤ p := by
      rcases Nat.lt_or_ge p L with hgt | hle
      · exfalso
        have h1 := low (by omega)
        obtain ⟨x, rfl⟩ := Nat.exists_eq_add_of_lt hgt
        rw [show p + x + 1 = (x + 1) + p by omega, Nat.pow_add, ← Nat.mul_assoc] at h1
        have h2 := Nat.le_of_mul_le_mul_right h1 (Nat.two_pow_pos p)
        have h3 : 2 ^ 52 * 2 ≤ 2 ^ 52 * 2 ^ (x + 1) := Nat.mul_le_mul_left _ (by rw [Nat.pow_succ]; have := Nat.two_pow_pos x; omega)
        omega
      · exact hle
    obtain ⟨y, hy⟩ := Nat.exists_eq_add_of_le hLD
    have hnum : n * 2 ^ p = n * 2 ^ y * 2 ^ L := by rw [hy, Nat.add_comm, Nat.pow_add, Nat.mul_assoc]
    have hK : K = n * 2 ^ y := Nat.le_antisymm (up _ (Nat.le_of_eq hnum)) (down _ (Nat.le_of_eq hnum.symm))
    have hKtop : K < 2 * 2 ^ 52 := by
      rw [hnum, ← hK] at top
      exact Nat.lt_of_mul_lt_mul_right top
    have hL0 : 0 < L := by
      rcases Nat.eq_zero_or_pos L with h0 | h0
      · exfalso
        subst h0
        have : y = p := by omega
        subst this
        have h5 : 2 ^ 53 ≤ 2 ^ y := Nat.pow_le_pow_right (by omega) p1
        have h6 : 2 ^ y ≤ n * 2 ^ y := Nat.le_mul_of_pos_left _ (Nat.pos_of_ne_zero hn)
        omega
      · exact h0
    have hKlow : 2 ^ 52 ≤ K := by
      have := low hL0
      rw [hnum, ← hK] at this
      exact Nat.le_of_mul_le_mul_right this (Nat.two_pow_pos L)
    obtain ⟨r, hr, er⟩ := hh.2
    have hrr : r = rung double neg n (double.leastPlace + p) := by
      rw [nearest_rung double neg _ hn] at er
      have e1 := congrArg (rg double) er
      have hsw := inf_lt_sw double
      have hi1 : pw (52 + D64) < double.infRung := pw_inf (by rw [D64_is]; decide)
      have hri : r < double.infRung := Nat.lt_of_le_of_lt hr hi1
      rw [rg_word double neg (Nat.lt_of_le_of_lt (Nat.min_le_right _ _) hsw), rg_word double neg (Nat.lt_trans hri hsw)] at e1
      rcases Nat.le_total (rung double neg n (double.leastPlace + p)) double.infRung with h' | h'
      · rw [Nat.min_eq_left h'] at e1
        exact e1.symm
      · rw [Nat.min_eq_right h'] at e1
        exact absurd e1 (Nat.ne_of_gt hri)
    have hi1 : pw (52 + D64) < double.infRung := pw_inf (by rw [D64_is]; decide)
    have hrs : r < double.signWeight := Nat.lt_trans (Nat.lt_of_le_of_lt hr hi1) (inf_lt_sw double)
    rw [er, V_word double neg hrs, hrr, eq]
    have hmv : mv double (L * 2 ^ 52 + K) = n * 2 ^ p := by rw [mv_block hKlow hKtop, hK, ← hnum]
    rw [hmv]

/-! ## steps as turns, exactly -/
/-- A step of a turn, in least places. -/
def st64 : Nat := 2 ^ (D64 - 12)
theorem st_q : 4096 * st64 = 4 * q64 := by decide +kernel
theorem st_pos : 0 < st64 := Nat.two_pow_pos _
theorem exact_int (a : Int) (h : a.natAbs ≤ 2 ^ 52) : ∃ c, FinW double c ∧ c < 2 * double.signWeight ∧ V double c = a * (st64 : Int) := by
  obtain ⟨c, h1, h2, h3⟩ := float_at (decide (a < 0)) a.natAbs (D64 - 12) h (by rw [D64_is]; decide) (by omega)
  refine ⟨c, h1, h2, ?_⟩
  rw [h3]
  show sg (decide (a < 0)) (a.natAbs * st64) = a * (st64 : Int)
  exact sg_natAbs a _ (.inr rfl) st64
theorem read_small {x : Nat} (h : FinW double x) : ∃ m e : Nat, m < 2 ^ 53 ∧ double.read x = .number (sgn double x) m (double.leastPlace + e) ∧ m * 2 ^ e = mv double (rg double x) := by
  unfold FinW rg at h
  unfold Format.read mv rg sgn
  dsimp only
  have hb := bi_pow
  by_cases h1 : x % double.signWeight < double.binade
  · rw [if_pos h1, if_pos h1]
    exact ⟨x % double.signWeight, 0, by omega, by simp, by simp⟩
  · rw [if_neg h1, if_neg h1, if_pos h]
    refine ⟨_, _, ?_, rfl, rfl⟩
    have := Nat.mod_lt (x % double.signWeight) (show 0 < double.binade by rw [hb]; decide)
    omega
theorem read_4096 : double.read 4661225614328463360 = .number false (2 ^ 52) (double.leastPlace + (1034 : Nat)) := by decide +kernel
theorem log_52 : (2 ^ 52).log2 = 52 := by decide +kernel
theorem V_int (n : Int) (h : n.natAbs ≤ 2 ^ 52) : FinW double (floatOfInt .f64 n) ∧ V double (floatOfInt .f64 n) = n * (4 * (q64 : Int)) := by
  have e : floatOfInt .f64 n = double.nearest (decide (n < 0)) n.natAbs 0 := rfl
  obtain ⟨f1, f2⟩ := float_int (decide (n < 0)) n.natAbs h
  rw [← e] at f1 f2
  refine ⟨f1, ?_⟩
  rw [f2, sg_natAbs n _ (.inr rfl)]
  simp
theorem sx_V (n : Int) (h : n.natAbs ≤ 524288) : V double (sx n) = n * (st64 : Int) := by
  obtain ⟨h1, h2, _, _⟩ := sx_ok n h
  obtain ⟨f1, f2⟩ := V_int n (by omega)
  obtain ⟨c, c1, _, c3⟩ := exact_int n (by omega)
  generalize floatOfInt .f64 n = f at *
  obtain ⟨m, i, hm, ex, vx⟩ := read_small f1
  have hmore : ∃ more : Nat, 54 + (2 ^ 52).log2 - m.log2 = more ∧ 52 ≤ more := by
    rw [log_52]
    refine ⟨_, rfl, ?_⟩
    by_cases h0 : m = 0
    · subst h0; simp
    · have := (Nat.log2_lt h0).2 hm
      omega
  obtain ⟨more, hmo, hm52⟩ := hmore
  have hq : floatBits .quo .f64 f 4661225614328463360 = some (double.nearest (sgn double f ^^ false) (2 * ((m <<< more) / 2 ^ 52) + ((m <<< more) % 2 ^ 52 != 0).toNat) (double.leastPlace + i - (double.leastPlace + (1034 : Nat)) - more - 1)) := by
    show double.div f 4661225614328463360 = _
    unfold Format.div
    rw [ex, read_4096]
    unfold Datum.quotient
    dsimp only
    rw [if_neg (by decide), ← hmo]
    rfl
  have hr : sx n = double.nearest (sgn double f ^^ false) (2 * ((m <<< more) / 2 ^ 52) + ((m <<< more) % 2 ^ 52 != 0).toNat) (double.leastPlace + i - (double.leastPlace + (1034 : Nat)) - more - 1) := by
    rw [h1] at hq
    injection hq
  obtain ⟨y, rfl⟩ := Nat.exists_eq_add_of_le hm52
  have hsh : m <<< (52 + y) = m * 2 ^ y * 2 ^ 52 := by rw [Nat.shiftLeft_eq, Nat.add_comm, Nat.pow_add, Nat.mul_assoc]
  have hdv : m * 2 ^ y * 2 ^ 52 / 2 ^ 52 = m * 2 ^ y := Nat.mul_div_cancel _ (by decide)
  have hmd : m * 2 ^ y * 2 ^ 52 % 2 ^ 52 = 0 := Nat.mul_mod_left _ _
  rw [hsh, hdv, hmd, Bool.xor_false] at hr
  have hb : ((0 : Nat) != 0).toNat = 0 := rfl
  rw [hb, Nat.add_zero] at hr
  have hmag : 2 * (m * 2 ^ y) * 2 ^ (i + D64) = mv double (rg double f) * 2 ^ (y + 1 + D64) := by
    rw [← vx, Nat.pow_add, Nat.pow_add 2 (y + 1), Nat.pow_succ]
    generalize 2 ^ D64 = Q
    generalize 2 ^ i = I
    generalize 2 ^ y = Y
    ac_rfl
  have hval : sg (sgn double f) (2 * (m * 2 ^ y) * 2 ^ (i + D64)) = V double c * 2 ^ (1034 + (52 + y) + 1) := by
    rw [hmag, ← sg_mul]
    have e1 : sg (sgn double f) (mv double (rg double f)) = n * (4 * (q64 : Int)) := f2
    rw [e1, c3]
    have e2 : (4 * (q64 : Int)) = 4096 * (st64 : Int) := by have := st_q; omega
    rw [e2]
    have e3 : 1034 + (52 + y) + 1 = (y + 1 + D64) + 12 := by rw [D64_is]; omega
    rw [e3, Int.pow_add, show (2 : Int) ^ 12 = 4096 by decide]
    have e4 : ((2 ^ (y + 1 + D64) : Nat) : Int) = (2 : Int) ^ (y + 1 + D64) := by simp
    rw [e4]
    generalize (2 : Int) ^ (y + 1 + D64) = Y
    generalize (st64 : Int) = S
    rw [Int.mul_comm Y 4096, Int.mul_left_comm n 4096 S, Int.mul_assoc, Int.mul_left_comm (n * S) 4096 Y]
  have hmc : mv double (rg double c) = (V double c).natAbs := by unfold V; rw [sg_abs]
  have hle : 2 * (m * 2 ^ y) * 2 ^ (i + D64) ≤ mv double (rg double c) * 2 ^ (1034 + (52 + y) + 1) := by
    have := congrArg Int.natAbs hval
    rw [sg_abs, Int.natAbs_mul] at this
    rw [hmc, this]
    have e5 : ((2 : Int) ^ (1034 + (52 + y) + 1)).natAbs = 2 ^ (1034 + (52 + y) + 1) := by rw [Int.natAbs_pow]; rfl
    rw [e5]
    exact Nat.le_refl _
  have hn := nearest_rnd double (sgn double f) (2 * (m * 2 ^ y)) (double.leastPlace + i - (double.leastPlace + (1034 : Nat)) - (52 + y : Nat) - 1) (p := i + D64) (d := 1034 + (52 + y) + 1) (hi := rg double c) (by rw [lpD]; omega) c1 hle
  rw [← hr] at hn
  rw [rnd_exact hn.1 c1 hval.symm, c3]

theorem mod_neg {n t : Int} (h : (n - 4096 * t).natAbs < 4096) (h2 : n - 4096 * t < 0) : n - 4096 * t + 4096 = n % 4096 := by omega
theorem mod_pos {n t : Int} (h : (n - 4096 * t).natAbs < 4096) (h2 : 0 ≤ n - 4096 * t) : n - 4096 * t = n % 4096 := by omega
theorem fr_V (n : Int) (h : n.natAbs ≤ 524288) : V double (fr (sx n)) = (n % 4096) * (st64 : Int) ∧ In4 (fr (sx n)) 4 := by
  obtain ⟨h1, h2, h3, _⟩ := sx_ok n h
  have hV := sx_V n h
  obtain ⟨t, ht, t1, t2, hs, f0, hneg, hpos, h4⟩ := fr_ok h2 h3
  refine ⟨?_, h4⟩
  have hsp := st_pos
  have hsq := st_q
  obtain ⟨q, hq, b1, b2⟩ := toInt_fin h2
  have hmv : mv double (rg double (sx n)) = n.natAbs * st64 := by
    have e : (V double (sx n)).natAbs = mv double (rg double (sx n)) := by unfold V; rw [sg_abs]
    rw [← e, hV, Int.natAbs_mul]
    rfl
  rw [hmv, ← hsq, ← Nat.mul_assoc] at b1 b2
  have b1' := Nat.le_of_mul_le_mul_right b1 hsp
  have b2' := Nat.lt_of_mul_lt_mul_right b2
  have htq : t = sg (sgn double (sx n)) q := by rw [ht] at hq; injection hq
  have hsg : n = sg (sgn double (sx n)) n.natAbs := by
    have e : sg (sgn double (sx n)) (n.natAbs * st64) = n * (st64 : Int) := by rw [← hV, ← hmv]; rfl
    rw [← sg_mul] at e
    exact (Int.eq_of_mul_eq_mul_right (by omega) e).symm
  have hd : (n - 4096 * t).natAbs < 4096 ∧ (t.natAbs ≤ 128) := by
    rcases sg_cases (sgn double (sx n)) q with ⟨e1, e2⟩ | ⟨e1, e2⟩
    · rw [e2] at htq
      rw [e1] at hsg
      simp only [sg, Bool.false_eq_true, if_false] at hsg
      omega
    · rw [e2] at htq
      rw [e1] at hsg
      simp only [sg, if_true] at hsg
      omega
  obtain ⟨g1, g2⟩ := V_int t (by omega)
  obtain ⟨c, c1, c2, c3⟩ := exact_int (n - 4096 * t) (by omega)
  have hdiff : V double (sx n) - V double (floatOfInt .f64 t) = (n - 4096 * t) * (st64 : Int) := by
    rw [hV, g2]
    have e2 : (4 * (q64 : Int)) = 4096 * (st64 : Int) := by omega
    rw [e2, Int.sub_mul, Int.mul_comm 4096 t, Int.mul_assoc]
  have hmc : mv double (rg double c) = (V double c).natAbs := by unfold V; rw [sg_abs]
  obtain ⟨r, hr, hrr⟩ := sub_rnd double h2 g1 (hi := rg double c) c1 (by rw [hdiff, hmc, c3]; exact Nat.le_refl _)
  have hr0 : fr0 (sx n) = r := by
    have : floatBits .sub .f64 (sx n) (floatOfInt .f64 t) = some r := hr
    rw [hs] at this
    injection this
  have hv0 : V double (fr0 (sx n)) = (n - 4096 * t) * (st64 : Int) := by
    rw [hr0, rnd_exact hrr c1 (by rw [hdiff, c3]; simp), c3]
  by_cases hn : V double (fr0 (sx n)) < 0
  · have hlt : n - 4096 * t < 0 := by
      rcases Int.lt_or_le (n - 4096 * t) 0 with h' | h'
      · exact h'
      · have := Int.mul_nonneg h' (show (0 : Int) ≤ st64 by omega)
        omega
    obtain ⟨d, d1, d2, d3⟩ := exact_int (n - 4096 * t + 4096) (by omega)
    have hsum : V double (fr0 (sx n)) + V double 4607182418800017408 = (n - 4096 * t + 4096) * (st64 : Int) := by
      rw [hv0, V_one, Int.add_mul]
      omega
    have hmd : mv double (rg double d) = (V double d).natAbs := by unfold V; rw [sg_abs]
    obtain ⟨s, hs2, hss⟩ := add_rnd double f0 F_one (hi := rg double d) d1 (by rw [hsum, hmd, d3]; exact Nat.le_refl _)
    have hfr : fr (sx n) = s := by
      have h5 := hneg hn
      have : floatBits .add .f64 (fr0 (sx n)) 4607182418800017408 = some s := hs2
      rw [h5] at this
      injection this
    have key : n - 4096 * t + 4096 = n % 4096 := mod_neg hd.1 hlt
    rw [hfr, rnd_exact hss d1 (by rw [hsum, d3]; simp), d3, key]
  · have hge : 0 ≤ n - 4096 * t := by
      rcases Int.lt_or_le (n - 4096 * t) 0 with h' | h'
      · have := Int.mul_neg_of_neg_of_pos h' (show (0 : Int) < st64 by omega)
        omega
      · exact h'
    have key : n - 4096 * t = n % 4096 := mod_pos hd.1 hge
    rw [hpos hn, hv0, key]

theorem fr_zero : ∀ k : Nat, k < 257 → fr (sx ((k : Int) * 4096 - 524288)) = 0 := by decide +kernel
theorem fr_per {n m : Int} (hn : n.natAbs ≤ 524288) (hm : m.natAbs ≤ 524288) (h : n % 4096 = m % 4096) : fr (sx n) = fr (sx m) := by
  by_cases h0 : n % 4096 = 0
  · have e1 := fr_zero ((n + 524288) / 4096).toNat (by omega)
    have e2 := fr_zero ((m + 524288) / 4096).toNat (by omega)
    rw [show ((((n + 524288) / 4096).toNat : Nat) : Int) * 4096 - 524288 = n by omega] at e1
    rw [show ((((m + 524288) / 4096).toNat : Nat) : Int) * 4096 - 524288 = m by omega] at e2
    rw [e1, e2]
  · obtain ⟨a1, a2⟩ := fr_V n hn
    obtain ⟨b1, b2⟩ := fr_V m hm
    refine word_inj a2.lt b2.lt (by rw [a1, b1, h]) ?_
    rw [a1]
    have hsp := st_pos
    intro h'
    rcases Int.mul_eq_zero.1 h' with h' | h' <;> omega
theorem phz_per {n m : Int} (hn : n.natAbs ≤ 524288) (hm : m.natAbs ≤ 524288) (h : n % 4096 = m % 4096) : phz n = phz m := by
  unfold phz
  rw [fr_per hn hm h]

end Go.Proofs.Ytkjmlpdbnnmlhab.twinNum
