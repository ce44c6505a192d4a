/- Places on a ring have nearly their radius and are apart. -/
import Derived.Test.YtdanlghaiekeaaaRows
import Derived.Test.YtdanlghaiekeaaaSlc
import Derived.Test.YtdanlghaiekeaaaSmall
import Derived.Test.YtdanlghaiekeaaaOpens
import Derived.Test.YtdanlghaiekeaaaPlaces
import Derived.Test.YtdanlghaiekeaaaFloats
import Derived.Test.YtdanlghaiekeaaaRound
import Derived.Test.YtdanlghaiekeaaaValues
import Derived.Test.YtdanlghaiekeaaaConv
import Derived.Test.YtdanlghaiekeaaaFWalk
import Derived.Test.YtdanlghaiekeaaaFinWalk
import Derived.Test.YtdanlghaiekeaaaFloat2
import Derived.Test.YtdanlghaiekeaaaFloat3
import Derived.Test.YtdanlghaiekeaaaPhase
import Derived.Test.YtdanlghaiekeaaaSine
import Derived.Test.YtdanlghaiekeaaaPhasor
import Derived.Test.YtdanlghaiekeaaaListC
import Derived.Test.YtdanlghaiekeaaaSteerNum
import Derived.Test.YtdanlghaiekeaaaRingNum
import Derived.Test.YtdanlghaiekeaaaSineIn
import Derived.Test.YtdanlghaiekeaaaPolyNum
import Derived.Test.YtdanlghaiekeaaaGPoly
import Derived.Test.YtdanlghaiekeaaaGNum
import Derived.Test.YtdanlghaiekeaaaRingTab
import Derived.WalkKit
import Derived.ProofKit
import Derived.OpenShut
import Derived.ShutString
import Derived.ChangeOld
import Derived.Below
import Derived.Lib.Hide
import Derived.BigQuiet
import Derived.Deep.QuietTactic
import Derived.WalkLawsBesides
import Derived.Outline
namespace Go.Proofs.Ytdanlghaiekeaaa.ringBd
open Go.ChangeShapes Go.WideShapes Go.ChangeAt Go.RowKit
open Go.ChangeMaps (open_string shut_string)
set_option linter.unusedVariables false
open Go Ieee
open Go.Proofs.Ytdanlghaiekeaaa.places Go.Proofs.Ytdanlghaiekeaaa.floats Go.Proofs.Ytdanlghaiekeaaa.round Go.Proofs.Ytdanlghaiekeaaa.values Go.Proofs.Ytdanlghaiekeaaa.conv Go.Proofs.Ytdanlghaiekeaaa.fWalk Go.Proofs.Ytdanlghaiekeaaa.finWalk Go.Proofs.Ytdanlghaiekeaaa.float2 Go.Proofs.Ytdanlghaiekeaaa.float3 Go.Proofs.Ytdanlghaiekeaaa.phase Go.Proofs.Ytdanlghaiekeaaa.sine Go.Proofs.Ytdanlghaiekeaaa.phasor Go.Proofs.Ytdanlghaiekeaaa.listC Go.Proofs.Ytdanlghaiekeaaa.steerNum Go.Proofs.Ytdanlghaiekeaaa.ringNum Go.Proofs.Ytdanlghaiekeaaa.polyNum Go.Proofs.Ytdanlghaiekeaaa.gPoly Go.Proofs.Ytdanlghaiekeaaa.gNum Go.Proofs.Ytdanlghaiekeaaa.ringTab

theorem cut_half (neg : Bool) (n drop : Nat) : 2 * (Toward.even.cut neg n drop * 2 ^ drop) ≤ 2 * n + 2 ^ drop ∧ 2 * n ≤ 2 * (Toward.even.cut neg n drop * 2 ^ drop) + 2 ^ drop := by
  unfold Toward.cut
  simp only [Nat.shiftLeft_eq, Nat.one_mul]
  by_cases h : drop ≤ n.log2 + 2
  · rw [Nat.min_eq_left h]
    have hd := Nat.div_add_mod n (2 ^ drop)
    have hm := Nat.mod_lt n (Nat.two_pow_pos drop)
    generalize 2 ^ drop = g at *
    generalize n % g = r at *
    generalize n / g = q at *
    generalize hb : (decide (g < 2 * r) || (g == 2 * r && q % 2 == 1)) = b
    rw [Nat.mul_comm] at hd
    cases b
    · have h1 : 2 * r ≤ g := by
        simp only [Bool.or_eq_false_iff, decide_eq_false_iff_not] at hb
        omega
      simp only [Bool.toNat_false, Nat.add_zero]
      omega
    · have h1 : g ≤ 2 * r := by
        simp only [Bool.or_eq_true, decide_eq_true_eq, Bool.and_eq_true, beq_iff_eq] at hb
        omega
      simp only [Bool.toNat_true, Nat.add_mul, Nat.one_mul]
      omega
  · have hn : n < 2 ^ (n.log2 + 1) := Nat.lt_log2_self
    have hp : 2 ^ (n.log2 + 2) ≤ 2 ^ drop := Nat.pow_le_pow_right (by omega) (by omega)
    have he : 2 ^ (n.log2 + 2) = 2 * 2 ^ (n.log2 + 1) := by rw [Nat.pow_succ, Nat.mul_comm]
    rw [Nat.min_eq_right (by omega), Nat.div_eq_of_lt (by omega), Nat.mod_eq_of_lt (by omega)]
    generalize 2 ^ (n.log2 + 2) = g at *
    have hb : (decide (g < 2 * n) || (g == 2 * n && 0 % 2 == 1)) = false := by
      simp only [Bool.or_eq_false_iff, decide_eq_false_iff_not]
      exact ⟨by omega, by simp⟩
    rw [hb]
    simp only [Bool.toNat_false, Nat.add_zero, Nat.zero_mul]
    omega

theorem sg_sub (s : Bool) (a b c : Nat) (h : 2 * a ≤ 2 * b + c ∧ 2 * b ≤ 2 * a + c) : 2 * (sg s a - sg s b).natAbs ≤ c := by
  cases s <;> simp only [sg, Bool.false_eq_true, if_false, if_true] <;> omega
/-- The nearest integer is at most a half away. -/
theorem rin_half {x : Nat} (h : Bd x (D64 + 47)) : 2 * (rin x * (2 ^ D64 : Nat) - V double x).natAbs ≤ 2 ^ D64 := by
  obtain ⟨m, e, ex, vx⟩ := read_fin double h.1
  obtain ⟨q, hq, hq1, _⟩ := toInt_fin h.1
  have hV : V double x = sg (sgn double x) (mv double (rg double x)) := rfl
  have e1 : (double.read x).integral .even = .number (sgn double x) (Toward.even.cut (sgn double x) (m <<< (double.leastPlace + e : Int).toNat) (-(double.leastPlace + e : Int)).toNat) 0 := by
    rw [ex]; rfl
  have hqe : q = m <<< (double.leastPlace + e : Int).toNat / 2 ^ (-(double.leastPlace + e : Int)).toNat := by
    unfold Datum.toInt Datum.integral at hq
    rw [ex] at hq
    simp only [cut_zero] at hq
    rw [signed_sg, Nat.pow_zero, Nat.mul_one] at hq
    exact (sg_inj (Option.some.inj hq)).symm
  have hle : q * (4 * q64) ≤ 2 ^ 47 * (4 * q64) := by
    refine Nat.le_trans hq1 ?_
    have hVa : (V double x).natAbs = mv double (rg double x) := by rw [hV]; exact sg_abs _ _
    rw [← hVa, four_q, ← Nat.pow_add, Nat.add_comm 47]
    exact h.2
  have hq47 : q ≤ 2 ^ 47 := Nat.le_of_mul_le_mul_right hle (by have := q64_pos; omega)
  have hc := ringNum.cut_le .even (sgn double x) (m <<< (double.leastPlace + e : Int).toNat) (-(double.leastPlace + e : Int)).toNat
  rw [← hqe] at hc
  have hh := cut_half (sgn double x) (m <<< (double.leastPlace + e : Int).toNat) (-(double.leastPlace + e : Int)).toNat
  have hR : 2 * (Toward.even.cut (sgn double x) (m <<< (double.leastPlace + e : Int).toNat) (-(double.leastPlace + e : Int)).toNat * 2 ^ D64) ≤ 2 * mv double (rg double x) + 2 ^ D64 ∧ 2 * mv double (rg double x) ≤ 2 * (Toward.even.cut (sgn double x) (m <<< (double.leastPlace + e : Int).toNat) (-(double.leastPlace + e : Int)).toNat * 2 ^ D64) + 2 ^ D64 := by
    generalize Toward.even.cut (sgn double x) (m <<< (double.leastPlace + e : Int).toNat) (-(double.leastPlace + e : Int)).toNat = K at *
    rw [← vx]
    rw [lp64, Nat.shiftLeft_eq] at hh
    have hdd := D64_is
    by_cases he : e ≤ 1074
    · rw [show (-1074 + (e : Int)).toNat = 0 by omega, Nat.pow_zero, Nat.mul_one, show (-(-1074 + (e : Int))).toNat = 1074 - e by omega] at hh
      have hp : (2 : Nat) ^ D64 = 2 ^ (1074 - e) * 2 ^ e := by rw [← Nat.pow_add, show 1074 - e + e = D64 by omega]
      rw [hp]
      generalize 2 ^ (1074 - e) = a at *
      have hpe := Nat.two_pow_pos e
      generalize 2 ^ e = b at *
      have h1 := Nat.mul_le_mul_right b hh.1
      have h2 := Nat.mul_le_mul_right b hh.2
      rw [← Nat.mul_assoc K]
      constructor <;> grind
    · rw [show (-1074 + (e : Int)).toNat = e - 1074 by omega, show (-(-1074 + (e : Int))).toNat = 0 by omega, Nat.pow_zero] at hh
      have hp : (2 : Nat) ^ e = 2 ^ (e - 1074) * 2 ^ D64 := by rw [← Nat.pow_add, show e - 1074 + D64 = e by omega]
      rw [hp]
      generalize 2 ^ (e - 1074) = a at *
      generalize 2 ^ D64 = b at *
      have hK : K = m * a := by omega
      rw [hK, Nat.mul_assoc]
      constructor <;> omega
  have er : rte x = double.nearest (sgn double x) (Toward.even.cut (sgn double x) (m <<< (double.leastPlace + e : Int).toNat) (-(double.leastPlace + e : Int)).toNat) 0 := by
    unfold rte; rw [e1]; rfl
  generalize Toward.even.cut (sgn double x) (m <<< (double.leastPlace + e : Int).toNat) (-(double.leastPlace + e : Int)).toNat = K at *
  obtain ⟨f1, f2⟩ := float_int (sgn double x) K (by omega)
  rw [← er] at f1 f2
  obtain ⟨p, hp, hp1, hp2⟩ := toInt_fin f1
  have hpK : p = K := by
    have hv2 : (V double (rte x)).natAbs = mv double (rg double (rte x)) := sg_abs _ _
    rw [f2, sg_abs] at hv2
    rw [← hv2] at hp1 hp2
    have h1 := Nat.le_of_mul_le_mul_right hp1 (by have := q64_pos; omega)
    have h2 := Nat.lt_of_mul_lt_mul_right hp2
    omega
  have hrin : rin x * (2 ^ D64 : Nat) = V double (rte x) := by
    have e2 : rin x = sg (sgn double (rte x)) p := by unfold rin; rw [hp]; rfl
    have e3 : V double (rte x) = sg (sgn double (rte x)) (mv double (rg double (rte x))) := rfl
    have hv2 : (V double (rte x)).natAbs = mv double (rg double (rte x)) := sg_abs _ _
    rw [f2, sg_abs] at hv2
    rw [e2, e3, ← hv2, hpK, sg_mul, four_q]
  rw [hrin, f2, hV, four_q]
  exact sg_sub _ _ _ _ hR

/-- Products of few digits are exact. -/
theorem wpl (k : Int) (d : Nat) (h : k.natAbs ≤ 2 ^ 52) (hd : 52 ≤ d) (hd2 : d ≤ 1900) : ∃ c, FinW double c ∧ V double c = k * 2 ^ d := by
  by_cases h0 : k = 0
  · subst h0
    exact ⟨0, F_zero, by rw [V_zero, Int.zero_mul]⟩
  · have hn : k.natAbs ≠ 0 := by omega
    have l1 := Nat.log2_self_le hn
    have l2 : k.natAbs < 2 ^ (k.natAbs.log2 + 1) := Nat.lt_log2_self
    have l3 : k.natAbs.log2 < 53 := (Nat.log2_lt hn).2 (Nat.lt_of_le_of_lt h (by decide))
    generalize hlg : k.natAbs.log2 = g at *
    have K1 : 2 ^ 52 ≤ k.natAbs * 2 ^ (52 - g) := by
      have := Nat.mul_le_mul_right (2 ^ (52 - g)) l1
      rwa [← Nat.pow_add, show g + (52 - g) = 52 by omega] at this
    have K2 : k.natAbs * 2 ^ (52 - g) < 2 * 2 ^ 52 := by
      have := Nat.mul_lt_mul_of_pos_right l2 (Nat.two_pow_pos (52 - g))
      rwa [← Nat.pow_add, show g + 1 + (52 - g) = 52 + 1 by omega, Nat.pow_succ, Nat.mul_comm (2 ^ 52)] at this
    have hm := mv_block (L := d - (52 - g)) K1 K2
    rw [Nat.mul_assoc, ← Nat.pow_add, show 52 - g + (d - (52 - g)) = d by omega] at hm
    generalize hr : (d - (52 - g)) * 2 ^ 52 + k.natAbs * 2 ^ (52 - g) = r at *
    have hri : r < double.infRung := by
      rw [inf64, ← hr]
      have : d - (52 - g) ≤ 1900 := by omega
      omega
    have hsw := inf_lt_sw double
    refine ⟨double.word (decide (k < 0)) r, ?_, ?_⟩
    · unfold FinW
      rw [rg_word double _ (by omega)]
      exact hri
    · rw [V_word double _ (by omega), hm, sg_k]
theorem pr_V {a : Nat} {r m : Int} (h : FinW single a) (hb : (V single a).natAbs * 2 ^ 925 ≤ 2 ^ (D64 + 34)) (hr : r.natAbs ≤ 4096) (hv : V double (wd a) = m * 2 ^ E44) (hm : m.natAbs ≤ 2 ^ 31) : V double (pr a r) = m * r * 2 ^ E44 := by
  have hA := wd_bd h hb
  clear hb
  obtain ⟨f1, f2⟩ : S64 (floatOfInt .f64 r) r := by
    have e1 : floatOfInt .f64 r = double.nearest (decide (r < 0)) r.natAbs 0 := rfl
    obtain ⟨f1, f2⟩ := float_int (decide (r < 0)) r.natAbs (Nat.le_trans hr (by decide))
    exact ⟨by rw [e1]; exact f1, by rw [e1, f2, four_q, sg_k]⟩
  have hk : (m * r).natAbs ≤ 2 ^ 52 := by
    rw [Int.natAbs_mul]
    exact Nat.le_trans (Nat.mul_le_mul hm hr) (by decide)
  obtain ⟨c, c1, c2⟩ := wpl (m * r) E44 hk (by unfold E44; omega) (by unfold E44; omega)
  have hprod : V double (wd a) * V double (floatOfInt .f64 r) = m * r * 2 ^ E44 * 2 ^ D64 := by rw [hv, f2]; grind
  obtain ⟨p, hp, hpp⟩ := mul_rnd double (D := D64) (hi := pw (52 + D64)) (by rw [lp64, D64_is]; rfl) hA.1 f1 pw52 (by
    rw [hprod, mv52, k_abs, k_abs]
    refine Nat.mul_le_mul_right _ (Nat.mul_le_mul hk ?_)
    have hdd := D64_is
    exact Nat.pow_le_pow_right (by omega) (by unfold E44; omega))
  have ep : pr a r = p := (bv_some (show floatBits .mul .f64 (wd a) (floatOfInt .f64 r) = some p from hp)).2
  rw [ep]
  have b1 := hpp.1.le c c1 (by rw [c2, hprod]; exact Int.le_refl _)
  have b2 := hpp.1.ge c c1 (by rw [c2, hprod]; exact Int.le_refl _)
  omega

/-- A place of the ring, in parts of 2^30. -/
theorem rpl_near (c k : Nat) (r : Int) (hc : c < 13) (hk : k < c) (hr : r.natAbs ≤ 4096) : 2 * ((rpl c r k).1 * 2 ^ 30 - (tb c k).1 * r).natAbs ≤ 2 ^ 30 ∧ 2 * ((rpl c r k).2 * 2 ^ 30 - (tb c k).2 * r).natAbs ≤ 2 ^ 30 := by
  obtain ⟨t1, t2⟩ := tab_ok c hc k hk
  obtain ⟨_, t3⟩ := tab_num c hc k hk
  have p1 : (tb c k).1.natAbs ≤ 2 ^ 31 := by omega
  have p2 : (tb c k).2.natAbs ≤ 2 ^ 31 := by omega
  obtain ⟨_, k2, k3, _⟩ := kq_ok (k : Int) (c : Int) (by omega) (by omega) (by omega)
  have key : ∀ (a : Nat) (m : Int), FinW single a → (V single a).natAbs * 2 ^ 925 ≤ 2 ^ (D64 + 34) → V double (wd a) = m * 2 ^ E44 → m.natAbs ≤ 2 ^ 31 → 2 * (rin (pr a r) * 2 ^ 30 - m * r).natAbs ≤ 2 ^ 30 := by
    intro a m g1 g2 g3 g4
    have h1 := pr_V g1 g2 hr g3 g4
    have h2 := rin_half (pr_ok g1 g2 hr).2
    clear g2
    rw [h1] at h2
    have hp : (2 : Nat) ^ D64 = 2 ^ 30 * 2 ^ E44 := by rw [← Nat.pow_add, show 30 + E44 = D64 by decide +kernel]
    rw [hp] at h2
    have e : rin (pr a r) * ((2 ^ 30 * 2 ^ E44 : Nat) : Int) - m * r * 2 ^ E44 = (rin (pr a r) * 2 ^ 30 - m * r) * ((2 ^ E44 : Nat) : Int) := by
      rw [pc E44, Int.natCast_mul]
      generalize ((2 ^ E44 : Nat) : Int) = E
      rw [show ((2 ^ 30 : Nat) : Int) = 2 ^ 30 from rfl]
      grind
    rw [e, Int.natAbs_mul, Int.natAbs_natCast, ← Nat.mul_assoc] at h2
    exact Nat.le_of_mul_le_mul_right h2 (Nat.two_pow_pos _)
  obtain ⟨⟨f1, f2⟩, ⟨f3, f4⟩⟩ := phx_ok k2 k3
  exact ⟨key _ _ f1 f2 t1 p1, key _ _ f3 f4 t2 p2⟩

theorem abs_le_mul {a b : Int} {m n : Nat} (h1 : a.natAbs ≤ m) (h2 : b.natAbs ≤ n) : (a * b).natAbs ≤ m * n := by
  rw [Int.natAbs_mul]; exact Nat.mul_le_mul h1 h2
theorem sum5 (D P Q R S T : Int) (E n c5 c6 c7 c8 : Nat) (ea : D.natAbs * 1152921504606846976 = (P + Q + R + S + T).natAbs) (b5 : P.natAbs ≤ c5) (b6 : Q.natAbs = c6) (b7 : R.natAbs = c7) (b8 : c6 + c7 ≤ c8) (b9 : c8 * 1000 ≤ 2 * n * 815691964509344235520) (b10 : c5 * 1000000 ≤ n * 263 * 1152921504606846976) (b3 : S.natAbs ≤ 288230376151711744) (b4 : T.natAbs ≤ 288230376151711744) (n1 : 64 ≤ n) : D.natAbs ≤ 3 * n := by
  have tri : (P + Q + R + S + T).natAbs ≤ P.natAbs + Q.natAbs + R.natAbs + S.natAbs + T.natAbs := by omega
  generalize (P + Q + R + S + T).natAbs = Z at *
  omega
set_option maxRecDepth 100000 in
/-- The squares of a place's parts are nearly the radius's. -/
theorem near_sq (x y p q r : Int) (h1 : 2 * (x * 2 ^ 30 - p * r).natAbs ≤ 2 ^ 30) (h2 : 2 * (y * 2 ^ 30 - q * r).natAbs ≤ 2 ^ 30) (h3 : (p * p + q * q - 2 ^ 60).natAbs * 1000000 ≤ 2 ^ 60) (h4 : (p.natAbs + q.natAbs) * 1000 ≤ 1415 * 2 ^ 30) (hr : 64 ≤ r) (hr2 : r ≤ 263) : (x * x + y * y - r * r).natAbs ≤ 3 * r.natAbs := by
  obtain ⟨s, hs⟩ : ∃ s, x * 2 ^ 30 - p * r = s := ⟨_, rfl⟩
  obtain ⟨t, ht⟩ : ∃ t, y * 2 ^ 30 - q * r = t := ⟨_, rfl⟩
  obtain ⟨d, hd⟩ : ∃ d, p * p + q * q - 2 ^ 60 = d := ⟨_, rfl⟩
  rw [hs] at h1
  rw [ht] at h2
  rw [hd] at h3
  have e : (x * x + y * y - r * r) * 2 ^ 60 = r * r * d + 2 * r * (p * s) + 2 * r * (q * t) + s * s + t * t := by
    have e1 : x * 2 ^ 30 = p * r + s := by omega
    have e2 : y * 2 ^ 30 = q * r + t := by omega
    have e3 : p * p + q * q = d + 2 ^ 60 := by omega
    have a1 : (x * 2 ^ 30) * (x * 2 ^ 30) = (p * r + s) * (p * r + s) := by rw [e1]
    have a2 : (y * 2 ^ 30) * (y * 2 ^ 30) = (q * r + t) * (q * r + t) := by rw [e2]
    grind
  have b1 : (p * s).natAbs ≤ p.natAbs * 2 ^ 29 := abs_le_mul (Nat.le_refl _) (by omega)
  have b2 : (q * t).natAbs ≤ q.natAbs * 2 ^ 29 := abs_le_mul (Nat.le_refl _) (by omega)
  have b3 : (s * s).natAbs ≤ 2 ^ 29 * 2 ^ 29 := abs_le_mul (by omega) (by omega)
  have b4 : (t * t).natAbs ≤ 2 ^ 29 * 2 ^ 29 := abs_le_mul (by omega) (by omega)
  obtain ⟨n, hn, n1, n2⟩ : ∃ n : Nat, r = n ∧ 64 ≤ n ∧ n ≤ 263 := ⟨r.toNat, by omega, by omega, by omega⟩
  subst hn
  have b5 : ((n : Int) * n * d).natAbs ≤ n * 263 * d.natAbs := by
    rw [Int.natAbs_mul, Int.natAbs_mul, Int.natAbs_natCast]
    exact Nat.mul_le_mul_right _ (Nat.mul_le_mul_left _ n2)
  have b6 : (2 * (n : Int) * (p * s)).natAbs = 2 * n * (p * s).natAbs := by rw [Int.natAbs_mul, Int.natAbs_mul]; rfl
  have b7 : (2 * (n : Int) * (q * t)).natAbs = 2 * n * (q * t).natAbs := by rw [Int.natAbs_mul, Int.natAbs_mul]; rfl
  have b8 : 2 * n * (p * s).natAbs + 2 * n * (q * t).natAbs ≤ 2 * n * ((p.natAbs + q.natAbs) * 2 ^ 29) := by
    rw [← Nat.mul_add]
    refine Nat.mul_le_mul_left _ ?_
    rw [Nat.add_mul]
    omega
  have b9 : 2 * n * ((p.natAbs + q.natAbs) * 2 ^ 29) * 1000 ≤ 2 * n * (1415 * 2 ^ 30 * 2 ^ 29) := by
    rw [Nat.mul_assoc (2 * n)]
    refine Nat.mul_le_mul_left _ ?_
    rw [Nat.mul_right_comm]
    exact Nat.mul_le_mul_right _ h4
  have b10 : n * 263 * d.natAbs * 1000000 ≤ n * 263 * 2 ^ 60 := by
    rw [Nat.mul_assoc (n * 263)]
    exact Nat.mul_le_mul_left _ h3
  have ea := congrArg Int.natAbs e
  rw [Int.natAbs_mul] at ea
  have e60 : ((2 : Int) ^ 60).natAbs = 2 ^ 60 := by decide
  rw [e60] at ea
  obtain ⟨c5, hc5⟩ : ∃ o, n * 263 * d.natAbs = o := ⟨_, rfl⟩
  obtain ⟨c6, hc6⟩ : ∃ o, 2 * n * (p * s).natAbs = o := ⟨_, rfl⟩
  obtain ⟨c7, hc7⟩ : ∃ o, 2 * n * (q * t).natAbs = o := ⟨_, rfl⟩
  obtain ⟨c8, hc8⟩ : ∃ o, 2 * n * ((p.natAbs + q.natAbs) * 2 ^ 29) = o := ⟨_, rfl⟩
  rw [hc5] at b5 b10
  rw [hc6] at b6 b8
  rw [hc7] at b7 b8
  rw [hc8] at b8 b9
  rw [Int.natAbs_natCast]
  clear hc5 hc6 hc7 hc8 h1 h2 h3 h4 hs ht hd b1 b2 e
  exact sum5 _ _ _ _ _ _ 0 n c5 c6 c7 c8 ea b5 b6 b7 b8 b9 b10 b3 b4 n1
theorem apart_of (x x' p p' r : Int) (h1 : 2 * (x * 2 ^ 30 - p * r).natAbs ≤ 2 ^ 30) (h2 : 2 * (x' * 2 ^ 30 - p' * r).natAbs ≤ 2 ^ 30) (h : 2 ^ 30 ≤ 10 * (p - p').natAbs) (hr : 64 ≤ r) : x ≠ x' := by
  rintro rfl
  have e : (p - p') * r = (x * 2 ^ 30 - p' * r) - (x * 2 ^ 30 - p * r) := by grind
  have h3 : ((p - p') * r).natAbs ≤ 2 ^ 30 := by rw [e]; omega
  rw [Int.natAbs_mul] at h3
  have h4 : (p - p').natAbs * 64 ≤ (p - p').natAbs * r.natAbs := Nat.mul_le_mul_left _ (by omega)
  omega
theorem ring_valid (c : Nat) (r : Int) (h1 : 1 ≤ c) (h2 : c ≤ 12) (hr : 64 ≤ r) (hr2 : r ≤ 263) : vp (rgl c r c) = true := by
  refine vp_mk (by rw [rgl_len]; omega) (by rw [rgl_len]; omega) ?_ ?_
  · intro p hp
    obtain ⟨k, hk, rfl⟩ := List.mem_map.1 hp
    have hk := List.mem_range.1 hk
    obtain ⟨a1, a2⟩ := rpl_near c k r (by omega) hk (by omega)
    obtain ⟨_, a3⟩ := tab_num c (by omega) k hk
    have b1 : ((tb c k).1 * r).natAbs ≤ 1519344681 * 263 := abs_le_mul (by omega) (by omega)
    have b2 : ((tb c k).2 * r).natAbs ≤ 1519344681 * 263 := abs_le_mul (by omega) (by omega)
    unfold okB
    refine decide_eq_true ?_
    omega
  · refine List.pairwise_iff_getElem.2 ?_
    intro i j hi hj hij
    rw [rgl_len] at hi hj
    have e : ∀ n (hn : n < (rgl c r c).length), (rgl c r c)[n] = rpl c r n := fun n hn => by simp [rgl]
    rw [e, e]
    intro heq
    obtain ⟨a1, a2⟩ := rpl_near c i r (by omega) hi (by omega)
    obtain ⟨b1, b2⟩ := rpl_near c j r (by omega) hj (by omega)
    rcases tab_apart c (by omega) j hj i hij with h | h
    · exact apart_of _ _ _ _ _ b1 a1 h hr (by rw [heq])
    · exact apart_of _ _ _ _ _ b2 a2 h hr (by rw [heq])
theorem ring_sq (c k : Nat) (r : Int) (h2 : c ≤ 12) (hk : k < c) (hr : 64 ≤ r) (hr2 : r ≤ 263) : ((rpl c r k).1 * (rpl c r k).1 + (rpl c r k).2 * (rpl c r k).2 - r * r).natAbs ≤ 3 * r.natAbs := by
  obtain ⟨a1, a2⟩ := rpl_near c k r (by omega) hk (by omega)
  obtain ⟨a3, a4⟩ := tab_num c (by omega) k hk
  exact near_sq _ _ _ _ r a1 a2 a3 a4 hr hr2
theorem ring_first (c : Nat) (r : Int) (h1 : 1 ≤ c) (h2 : c ≤ 12) (hr : 64 ≤ r) (hr2 : r ≤ 263) : rpl c r 0 = (r, 0) := by
  obtain ⟨a1, a2⟩ := rpl_near c 0 r (by omega) (by omega) (by omega)
  rw [tab_first c (by omega) h1] at a1 a2
  simp only [Int.zero_mul] at a2
  refine Prod.ext ?_ ?_
  · show _ = r
    omega
  · show _ = (0 : Int)
    omega

end Go.Proofs.Ytdanlghaiekeaaa.ringBd
