/- Numbers of a snapshot: noise within its level, sums with zeros, a symbol times its gain in a phase. -/
/- What the law on snapshots compares, as numbers. -/
import Derived.Test.YtpmjheofjmdfeaaRows
import Derived.Test.YtpmjheofjmdfeaaSlc
import Derived.Test.YtpmjheofjmdfeaaFloatAll
import Derived.Test.YtpmjheofjmdfeaaFWalk
import Derived.Test.YtpmjheofjmdfeaaFinWalk
import Derived.Test.YtpmjheofjmdfeaaRoot
import Derived.Test.YtpmjheofjmdfeaaFlAll
import Derived.Test.YtpmjheofjmdfeaaPhasor
import Derived.Test.YtpmjheofjmdfeaaListC
import Derived.Test.YtpmjheofjmdfeaaListCC
import Derived.Test.YtpmjheofjmdfeaaSteerNum
import Derived.Test.YtpmjheofjmdfeaaSineIn
import Derived.Test.YtpmjheofjmdfeaaPolyAll
import Derived.Test.YtpmjheofjmdfeaaGAll
import Derived.Test.YtpmjheofjmdfeaaTwinNum
import Derived.Test.YtpmjheofjmdfeaaPhDef
import Derived.Test.YtpmjheofjmdfeaaPhTabA
import Derived.Test.YtpmjheofjmdfeaaPhTabB
import Derived.Test.YtpmjheofjmdfeaaPhTabC
import Derived.Test.YtpmjheofjmdfeaaPhTabD
import Derived.Test.YtpmjheofjmdfeaaPhAll
import Derived.Test.YtpmjheofjmdfeaaFitAll
import Derived.Test.YtpmjheofjmdfeaaSmall
import Derived.Test.YtpmjheofjmdfeaaSeedAll
import Derived.Test.YtpmjheofjmdfeaaOpens
import Derived.Test.YtpmjheofjmdfeaaPlaceAll
import Derived.Test.YtpmjheofjmdfeaaSrcsAll
import Derived.Test.YtpmjheofjmdfeaaSteering
import Derived.Test.YtpmjheofjmdfeaaShotAll
import Derived.Test.YtpmjheofjmdfeaaBits
import Derived.WalkKit
import Derived.ProofKit
import Derived.OpenShut
import Derived.ShutString
import Derived.ChangeOld
import Derived.Below
import Derived.Lib.Hide
import Derived.BigQuiet
import Derived.Deep.QuietTactic
import Derived.WalkLawsBesides
import Derived.Outline
import Derived.Laws.FloatArith
import Derived.Laws.ComplexArith
namespace Go.Proofs.Ytpmjheofjmdfeaa.snapNum
open Go.ChangeShapes Go.WideShapes Go.ChangeAt Go.RowKit
open Go.ChangeMaps (open_string shut_string)
set_option linter.unusedVariables false
open Go Ieee Go.RowKit
open Go.Proofs.Ytpmjheofjmdfeaa.slc Go.Proofs.Ytpmjheofjmdfeaa.fWalk Go.Proofs.Ytpmjheofjmdfeaa.steerNum Go.Proofs.Ytpmjheofjmdfeaa.sineIn Go.Proofs.Ytpmjheofjmdfeaa.floats Go.Proofs.Ytpmjheofjmdfeaa.round Go.Proofs.Ytpmjheofjmdfeaa.values Go.Proofs.Ytpmjheofjmdfeaa.conv Go.Proofs.Ytpmjheofjmdfeaa.float2 Go.Proofs.Ytpmjheofjmdfeaa.float3 Go.Proofs.Ytpmjheofjmdfeaa.phase Go.Proofs.Ytpmjheofjmdfeaa.sine Go.Proofs.Ytpmjheofjmdfeaa.phasor Go.Proofs.Ytpmjheofjmdfeaa.listC Go.Proofs.Ytpmjheofjmdfeaa.polyNum Go.Proofs.Ytpmjheofjmdfeaa.gPoly Go.Proofs.Ytpmjheofjmdfeaa.gNum Go.Proofs.Ytpmjheofjmdfeaa.rq Go.Proofs.Ytpmjheofjmdfeaa.powW Go.Proofs.Ytpmjheofjmdfeaa.steerR Go.Proofs.Ytpmjheofjmdfeaa.mulAny Go.Proofs.Ytpmjheofjmdfeaa.fitsAny Go.Proofs.Ytpmjheofjmdfeaa.seeds Go.Proofs.Ytpmjheofjmdfeaa.symbol Go.Proofs.Ytpmjheofjmdfeaa.noise Go.Proofs.Ytpmjheofjmdfeaa.shot

def T9 : Nat := 2 ^ 149
def T7 : Nat := 2 ^ 147
/-- The results of an operation that is told. -/
theorem fop_32 {op : BinOp} {x y r : Nat} (h : floatBits op .f32 x y = some r) (hr : FinW single r) : fop op .f32 x y = r := by
  unfold fop
  rw [h]
  exact can_fin (k := .f32) hr
theorem rnd_same {num : Int} {r x : Nat} (h : Rnd single num 0 r) (hx : FinW single x) (e : num = V single x) : V single r = V single x := by
  have a := h.le x hx (by rw [e]; simp)
  have b := h.ge x hx (by rw [e]; simp)
  omega
/-- Adding a zero changes no value. -/
theorem add_z {x y : Nat} (hx : FinW single x) (hy : FinW single y) (h0 : V single y = 0) : FinW single (fop .add .f32 x y) ∧ V single (fop .add .f32 x y) = V single x := by
  obtain ⟨r, hr, hrr⟩ := add_rnd single hx hy (hi := rg single x) hx (by rw [h0, Int.add_zero]; unfold V; rw [sg_abs]; exact Nat.le_refl _)
  rw [fop_32 (show floatBits .add .f32 _ _ = some r from hr) hrr.fin]
  exact ⟨hrr.fin, rnd_same hrr hx (by rw [h0, Int.add_zero])⟩
theorem z_add {x y : Nat} (hx : FinW single x) (hy : FinW single y) (h0 : V single x = 0) : FinW single (fop .add .f32 x y) ∧ V single (fop .add .f32 x y) = V single y := by
  obtain ⟨r, hr, hrr⟩ := add_rnd single hx hy (hi := rg single y) hy (by rw [h0, Int.zero_add]; unfold V; rw [sg_abs]; exact Nat.le_refl _)
  rw [fop_32 (show floatBits .add .f32 _ _ = some r from hr) hrr.fin]
  exact ⟨hrr.fin, rnd_same hrr hy (by rw [h0, Int.zero_add])⟩
theorem zero_fin : FinW single 0 ∧ V single 0 = 0 := ⟨by unfold FinW; decide +kernel, by decide +kernel⟩
theorem one_w : FinW single 1065353216 ∧ V single 1065353216 = (T9 : Int) ∧ mv single 1065353216 = T9 ∧ (1065353216 : Nat) < single.infRung := ⟨by unfold FinW; decide +kernel, by decide +kernel, by decide +kernel, by decide +kernel⟩
theorem mone_w : FinW single 3212836864 ∧ V single 3212836864 = -(T9 : Int) := ⟨by unfold FinW; decide +kernel, by decide +kernel⟩
theorem k14_w : FinW single 1182793728 ∧ V single 1182793728 = 16384 * (T9 : Int) ∧ mv single 1182793728 = 16384 * T9 ∧ (1182793728 : Nat) < single.infRung := ⟨by unfold FinW; decide +kernel, by decide +kernel, by decide +kernel, by decide +kernel⟩
theorem mk14_w : FinW single 3330277376 ∧ V single 3330277376 = -(16384 * (T9 : Int)) := ⟨by unfold FinW; decide +kernel, by decide +kernel⟩
theorem quart_w : FinW single 1048576000 ∧ V single 1048576000 = (T7 : Int) ∧ mv single 1048576000 = T7 ∧ (1048576000 : Nat) < single.infRung := ⟨by unfold FinW; decide +kernel, by decide +kernel, by decide +kernel, by decide +kernel⟩
theorem mquart_w : FinW single 3196059648 ∧ V single 3196059648 = -(T7 : Int) := ⟨by unfold FinW; decide +kernel, by decide +kernel⟩
theorem T9_pos : 0 < T9 := by decide +kernel
theorem quo_mag {m n : Nat} (hm : m ≠ 0) (hn : n ≠ 0) : n * 2 ^ 24 ≤ m * 2 ^ (25 + n.log2 - m.log2) := by
  have hmlog : 2 ^ m.log2 ≤ m := Nat.log2_self_le hm
  have hnlog : n < 2 ^ (n.log2 + 1) := Nat.lt_log2_self
  calc n * 2 ^ 24 ≤ 2 ^ (n.log2 + 1) * 2 ^ 24 := Nat.mul_le_mul_right _ (Nat.le_of_lt hnlog)
    _ = 2 ^ (n.log2 + 25) := by rw [← Nat.pow_add]
    _ ≤ 2 ^ (m.log2 + (25 + n.log2 - m.log2)) := Nat.pow_le_pow_right (by omega) (by omega)
    _ = 2 ^ m.log2 * 2 ^ (25 + n.log2 - m.log2) := Nat.pow_add _ _ _
    _ ≤ m * 2 ^ (25 + n.log2 - m.log2) := Nat.mul_le_mul_right _ hmlog
/-- A small integer as a number. -/
theorem int_bd (k : Int) (h : k.natAbs ≤ 16384) : FinW single (floatOfInt .f32 k) ∧ (V single (floatOfInt .f32 k)).natAbs ≤ 16384 * T9 := by
  have hm : k.natAbs * 2 ^ 149 ≤ 16384 * T9 := Nat.mul_le_mul_right _ h
  have hh := (nearest_rnd single (decide (k < 0)) k.natAbs 0 (p := 149) (d := 0) (by rw [lp32]; rfl) (hi := 1182793728) k14_w.2.2.2 (by rw [k14_w.2.2.1, Nat.pow_zero, Nat.mul_one]; exact hm)).1
  have e : floatOfInt .f32 k = single.nearest (decide (k < 0)) k.natAbs 0 := rfl
  rw [e]
  have hs : (sg (decide (k < 0)) (k.natAbs * 2 ^ 149)).natAbs ≤ 16384 * T9 := by rw [sg_abs]; exact hm
  generalize sg (decide (k < 0)) (k.natAbs * 2 ^ 149) = X at *
  have a := hh.le _ k14_w.1 (by rw [k14_w.2.1, Int.pow_zero, Int.mul_one]; omega)
  have b := hh.ge _ mk14_w.1 (by rw [mk14_w.2, Int.pow_zero, Int.mul_one]; omega)
  rw [k14_w.2.1] at a
  rw [mk14_w.2] at b
  exact ⟨hh.fin, by omega⟩
theorem sticky_le {A n i w : Nat} (hn : n ≠ 0) (hA : n * 2 ^ 24 ≤ A) (h : A * 2 ^ i ≤ n * 2 ^ w) : (2 * (A / n) + (A % n != 0).toNat) * 2 ^ i ≤ 2 ^ (w + 1) := by
  have hp := Nat.pos_of_ne_zero hn
  have hd := Nat.div_add_mod A n
  have hm := Nat.mod_lt A hp
  have hq : 1 ≤ A / n := by
    refine (Nat.le_div_iff_mul_le hp).2 ?_
    rw [Nat.one_mul]
    exact Nat.le_trans (Nat.le_mul_of_pos_right n (by decide)) hA
  generalize A / n = q at *
  generalize A % n = r at *
  rw [Nat.pow_succ, Nat.mul_comm _ 2]
  have hle : q * 2 ^ i ≤ 2 ^ w := by
    refine Nat.le_of_mul_le_mul_left ?_ hp
    calc n * (q * 2 ^ i) = n * q * 2 ^ i := by rw [Nat.mul_assoc]
      _ ≤ A * 2 ^ i := Nat.mul_le_mul_right _ (by omega)
      _ ≤ n * 2 ^ w := h
  by_cases hr : r = 0
  · subst hr
    show (2 * q + 0) * 2 ^ i ≤ _
    rw [Nat.add_zero, Nat.mul_assoc]
    exact Nat.mul_le_mul_left 2 hle
  · have hb : (r != 0) = true := by simpa using hr
    rw [hb]
    show (2 * q + 1) * 2 ^ i ≤ _
    have hlt : q * 2 ^ i < 2 ^ w := by
      refine Nat.lt_of_mul_lt_mul_left (a := n) ?_
      calc n * (q * 2 ^ i) = n * q * 2 ^ i := by rw [Nat.mul_assoc]
        _ < A * 2 ^ i := Nat.mul_lt_mul_of_pos_right (by omega) (Nat.two_pow_pos _)
        _ ≤ n * 2 ^ w := h
    have hiw : i ≤ w := by
      refine (Nat.pow_le_pow_iff_right (a := 2) (by omega)).1 ?_
      have : 1 * 2 ^ i ≤ q * 2 ^ i := Nat.mul_le_mul_right _ hq
      omega
    obtain ⟨z, rfl⟩ := Nat.exists_eq_add_of_le hiw
    rw [Nat.pow_add] at hlt ⊢
    have h2 : q < 2 ^ z := Nat.lt_of_mul_lt_mul_right (a := 2 ^ i) (by rw [Nat.mul_comm (2 ^ z)]; exact hlt)
    have h3 : 2 * q + 1 ≤ 2 * 2 ^ z := by omega
    calc (2 * q + 1) * 2 ^ i ≤ 2 * 2 ^ z * 2 ^ i := Nat.mul_le_mul_right _ h3
      _ = 2 * (2 ^ i * 2 ^ z) := by rw [Nat.mul_assoc, Nat.mul_comm (2 ^ z)]
/-- A quotient by no less is at most 1. -/
theorem quo_one {x y : Nat} (hx : FinW single x) (hy : FinW single y) (y0 : V single y ≠ 0) (h : (V single x).natAbs ≤ (V single y).natAbs) :
    ∃ r, floatBits .quo .f32 x y = some r ∧ FinW single r ∧ (V single r).natAbs ≤ T9 := by
  obtain ⟨m, i, ex, vx⟩ := read_fin single hx
  obtain ⟨n, j, ey, vy⟩ := read_fin single hy
  have hn : n ≠ 0 := by
    rintro rfl
    apply y0
    rw [V_read vy, Nat.zero_mul]
    cases sgn single y <;> rfl
  rw [V_read vx, V_read vy, sg_abs, sg_abs] at h
  have hq : single.div x y = some (single.nearest (sgn single x ^^ sgn single y) (2 * ((m <<< (25 + n.log2 - m.log2)) / n) + ((m <<< (25 + n.log2 - m.log2)) % n != 0).toNat) (single.leastPlace + i - (single.leastPlace + j) - (25 + n.log2 - m.log2 : Nat) - 1)) := by
    unfold Format.div
    rw [ex, ey]
    unfold Datum.quotient
    dsimp only
    rw [if_neg hn]
    rfl
  have hmag : (2 * ((m <<< (25 + n.log2 - m.log2)) / n) + ((m <<< (25 + n.log2 - m.log2)) % n != 0).toNat) * 2 ^ (i + 149) ≤ T9 * 2 ^ (j + (25 + n.log2 - m.log2) + 1) := by
    by_cases hm : m = 0
    · rw [hm, Nat.zero_shiftLeft, Nat.zero_div, Nat.zero_mod]
      show (2 * 0 + 0) * _ ≤ _
      rw [Nat.mul_zero, Nat.zero_add, Nat.zero_mul]
      exact Nat.zero_le _
    · have hmo := quo_mag hm hn
      rw [Nat.shiftLeft_eq]
      generalize 25 + n.log2 - m.log2 = more at *
      have h1 := sticky_le (A := m * 2 ^ more) (n := n) (i := i) (w := j + more) hn hmo (by
        rw [Nat.pow_add, Nat.mul_right_comm, ← Nat.mul_assoc]
        exact Nat.mul_le_mul_right _ h)
      rw [Nat.pow_add, ← Nat.mul_assoc, Nat.mul_comm T9]
      exact Nat.mul_le_mul_right _ h1
  generalize hg : 25 + n.log2 - m.log2 = more at *
  generalize 2 * ((m <<< more) / n) + ((m <<< more) % n != 0).toNat = mag at *
  have hh := (nearest_rnd single (sgn single x ^^ sgn single y) mag (single.leastPlace + i - (single.leastPlace + j) - (more : Nat) - 1) (p := i + 149) (d := j + more + 1) (by rw [lp32]; omega) (hi := 1065353216) one_w.2.2.2 (by rw [one_w.2.2.1]; exact hmag)).1
  generalize (sgn single x ^^ sgn single y) = s at *
  have hs : (sg s (mag * 2 ^ (i + 149))).natAbs ≤ T9 * 2 ^ (j + more + 1) := by rw [sg_abs]; exact hmag
  generalize sg s (mag * 2 ^ (i + 149)) = X at *
  have e : ((T9 * 2 ^ (j + more + 1) : Nat) : Int) = (T9 : Int) * 2 ^ (j + more + 1) := by push_cast; rfl
  have a := hh.le _ one_w.1 (by rw [one_w.2.1, ← e]; omega)
  have b := hh.ge _ mone_w.1 (by rw [mone_w.2, Int.neg_mul, ← e]; omega)
  rw [one_w.2.1] at a
  rw [mone_w.2] at b
  exact ⟨_, hq, hh.fin, by omega⟩
/-- A part of noise is within 1; with a level, within it. -/
theorem np_fin (d : Int) (h : 0 ≤ d ∧ d ≤ 32767) : FinW single (np d) ∧ (V single (np d)).natAbs ≤ T9 := by
  obtain ⟨a, b⟩ := int_bd (d - 16384) (by omega)
  obtain ⟨r, h1, h2, h3⟩ := quo_one a k14_w.1 (by rw [k14_w.2.1]; have := T9_pos; omega) (by rw [k14_w.2.1]; omega)
  unfold np
  rw [fop_32 h1 h2]
  exact ⟨h2, h3⟩
theorem nz_zero (d : Int) (h : 0 ≤ d ∧ d ≤ 32767) : FinW single (nz d 0) ∧ V single (nz d 0) = 0 := by
  obtain ⟨a, b⟩ := np_fin d h
  obtain ⟨r, hr, hrr, _⟩ := mul_rnd single (D := 149) lp32 a zero_fin.1 (hi := 0) (by decide +kernel) (by rw [zero_fin.2, Int.mul_zero]; exact Nat.zero_le _)
  unfold nz
  rw [fop_32 (show floatBits .mul .f32 _ _ = some r from hr) hrr.fin]
  rw [zero_fin.2, Int.mul_zero] at hrr
  have h1 := hrr.le 0 zero_fin.1 (by rw [zero_fin.2]; simp)
  have h2 := hrr.ge 0 zero_fin.1 (by rw [zero_fin.2]; simp)
  rw [zero_fin.2] at h1 h2
  exact ⟨hrr.fin, by omega⟩
theorem nz_quart (d : Int) (h : 0 ≤ d ∧ d ≤ 32767) : FinW single (nz d 1048576000) ∧ (V single (nz d 1048576000)).natAbs ≤ T7 := by
  obtain ⟨a, b⟩ := np_fin d h
  have hp : (V single (np d) * V single 1048576000).natAbs ≤ T7 * T9 := by
    rw [quart_w.2.1, Int.natAbs_mul, Int.natAbs_natCast, Nat.mul_comm]
    exact Nat.mul_le_mul_left _ b
  obtain ⟨r, hr, hrr, _⟩ := mul_rnd single (D := 149) lp32 a quart_w.1 (hi := 1048576000) quart_w.2.2.2 (by rw [quart_w.2.2.1]; exact hp)
  unfold nz
  rw [fop_32 (show floatBits .mul .f32 _ _ = some r from hr) hrr.fin]
  generalize V single (np d) * V single 1048576000 = X at *
  have e : ((T7 * T9 : Nat) : Int) = (T7 : Int) * 2 ^ 149 := by rw [Int.natCast_mul, show (T9 : Int) = 2 ^ 149 by decide +kernel]
  have h1 := hrr.le _ quart_w.1 (by rw [quart_w.2.1, ← e]; omega)
  have h2 := hrr.ge _ mquart_w.1 (by rw [mquart_w.2, Int.neg_mul, ← e]; omega)
  rw [quart_w.2.1] at h1
  rw [mquart_w.2] at h2
  exact ⟨hrr.fin, by omega⟩
theorem quart_gt {a : Nat} (h : FinW single a ∧ (V single a).natAbs ≤ T7) : (FloatKind.f32.format.order a 1048576000 == some .gt) = false ∧ (FloatKind.f32.format.order a 3196059648 == some .lt) = false := by
  have e1 := order_fin single h.1 quart_w.1
  have e2 := order_fin single h.1 mquart_w.1
  rw [quart_w.2.1] at e1
  rw [mquart_w.2] at e2
  have hb := h.2
  generalize V single a = X at *
  constructor
  · show (single.order a 1048576000 == some .gt) = false
    rw [e1]
    by_cases h1 : X < (T7 : Int)
    · rw [show compare X (T7 : Int) = .lt from Int.compare_eq_lt.2 h1]; rfl
    · rw [show compare X (T7 : Int) = .eq from Int.compare_eq_eq.2 (by omega)]; rfl
  · show (single.order a 3196059648 == some .lt) = false
    rw [e2]
    by_cases h1 : -(T7 : Int) < X
    · rw [show compare X (-(T7 : Int)) = .gt from Int.compare_eq_gt.2 h1]; rfl
    · rw [show compare X (-(T7 : Int)) = .eq from Int.compare_eq_eq.2 (by omega)]; rfl
theorem eq_val {a b : Nat} (ha : FinW single a) (hb : FinW single b) (h : V single a = V single b) : (FloatKind.f32.format.order a b == some .eq) = true := by
  show (single.order a b == some .eq) = true
  rw [order_fin single ha hb, h, show compare (V single b) (V single b) = .eq from Int.compare_eq_eq.2 rfl]
  rfl

/-- The word that a number is. -/
theorem can_back {x X : Nat} (h : can .f32 x = X) (hX : FinW single X) : x = X := by
  by_cases hn : isNaN .f32 x = true
  · unfold can at h
    rw [if_pos hn] at h
    rw [← h] at hX
    exact absurd hX (by unfold FinW; decide +kernel)
  · rw [can_of_not (by simpa using hn)] at h
    exact h
theorem fin_r {u : Nat} (h : FinW double u) (hr : nr (r64 u) 0 (7 * two 125)) : FinW single (cop .f64 u .f32) := by
  have hp := two_pos D64
  have hV : (V double u).natAbs ≤ 7 * 2 ^ (D64 + 125) := by
    unfold nr r64 at hr
    have h3 := Rat.mul_le_mul_of_nonneg_right (show (V double u : Rat) / two D64 ≤ 7 * two 125 by grind) (Rat.le_of_lt hp)
    have h4 := Rat.mul_le_mul_of_nonneg_right (show -((V double u : Rat) / two D64) ≤ 7 * two 125 by grind) (Rat.le_of_lt hp)
    rw [show (V double u : Rat) / two D64 * two D64 = V double u by grind] at h3
    rw [show -((V double u : Rat) / two D64) * two D64 = -(V double u : Rat) by grind] at h4
    have e : (7 * two 125) * two D64 = (((7 * 2 ^ (D64 + 125) : Nat) : Int) : Rat) := by
      rw [show (((7 * 2 ^ (D64 + 125) : Nat) : Int) : Rat) = 7 * two (D64 + 125) by unfold two; push_cast; rfl, two_add]
      grind
    rw [e] at h3 h4
    rw [← Rat.intCast_neg] at h4
    have i1 := Rat.intCast_le_intCast.1 h3
    have i2 := Rat.intCast_le_intCast.1 h4
    generalize 7 * 2 ^ (D64 + 125) = B at *
    omega
  obtain ⟨r, hr, hrr⟩ := narrow_rnd (hi := 2136997888) h (by rw [inf32]; decide) (by rw [hi_is, seven 274 925 (D64 + 125) rfl]; exact hV)
  unfold cop
  rw [hr]
  show FinW single (can .f32 r)
  rw [can_fin (k := .f32) hrr.fin]
  exact hrr.fin
theorem fit_fin2 {a b c d : Nat} (ha : Bs a 127) (hb : Bs b 127) (hc : Bs c 1) (hd : Bs d 1) (hr : r32 c * r32 c + r32 d * r32 d ≤ 1001 / 1000) : FinW single (mp .sub a b c d) ∧ FinW single (mp .add a b c d) := by
  obtain ⟨_, A⟩ := wd_in ha (by omega)
  obtain ⟨_, B⟩ := wd_in hb (by omega)
  obtain ⟨_, C⟩ := wd_in hc (by omega)
  obtain ⟨_, D⟩ := wd_in hd (by omega)
  obtain ⟨e1, b1, n1⟩ := mul64 A C (by omega)
  obtain ⟨e2, b2, n2⟩ := mul64 B D (by omega)
  obtain ⟨e3, b3, n3⟩ := sub64 b1 b2 (by omega)
  obtain ⟨e4, b4, n4⟩ := add64 b1 b2 (by omega)
  have hx := bs_r ha
  have hy := bs_r hb
  have hT := Rat.le_of_lt (two_pos 127)
  obtain ⟨k1, k2⟩ := cross4 hT hx hy hr
  rw [(wd_r ha.1).2, (wd_r hc.1).2] at n1
  rw [(wd_r hb.1).2, (wd_r hd.1).2] at n2
  have h50 : two 50 = 1125899906842624 := rfl
  have hp := two_pos 125
  rw [h50] at n1 n2 n3 n4
  rw [show 127 + 1 = 128 from rfl, two_128] at n1 n2
  rw [two_129] at n3 n4
  rw [two_127] at k1 k2
  unfold mp mw
  rw [cop_fin ha (by omega), cop_fin hb (by omega), cop_fin hc (by omega), cop_fin hd (by omega), fop_fin e1 b1.1, fop_fin e2 b2.1, fop_fin e3 b3.1, fop_fin e4 b4.1]
  exact ⟨fin_r b3.1 (bound_s n1 n2 n3 k2 hp), fin_r b4.1 (bound_a n1 n2 n4 k1 hp)⟩
/-- What a source sends, times a phase, is finite. -/
theorem inc_fin {s1 s2 g a b : Nat} {n : Int} (h1 : Half s1) (h2 : Half s2) (hg : FinW single g) (ha : can .f32 a = fop .mul .f32 s1 g) (hb : can .f32 b = fop .mul .f32 s2 g) (hn : n.natAbs ≤ 524288) :
    FinW single (mp .sub a b (phz n).1 (phz n).2) ∧ FinW single (mp .add a b (phz n).2 (phz n).1) := by
  have A := half_fin h1 hg ha
  have B := half_fin h2 hg hb
  obtain ⟨⟨C, D⟩, _⟩ := ph_r n hn
  have ho := (ph_one n hn).1
  exact ⟨(fit_fin2 A B C D (by grind)).1, (fit_fin2 A B D C (by grind)).2⟩
/-- The gains. -/
def gq (r : Nat) : Nat := (floatBits .quo .f32 (floatOfInt .f32 (1 + (r : Int))) 1082130432).getD 0
theorem gq_tab : ∀ r : Nat, r < 8 → floatBits .quo .f32 (floatOfInt .f32 (1 + (r : Int))) 1082130432 = some (gq r) ∧ FinW single (gq r) := by unfold FinW; decide +kernel
/-- A sum of +0, what comes in and nothing, has its value. -/
theorem sum_val {I N : Nat} (hI : FinW single I) (hN : FinW single N ∧ V single N = 0) : FinW single (fop .add .f32 (fop .add .f32 0 I) N) ∧ V single (fop .add .f32 (fop .add .f32 0 I) N) = V single I := by
  obtain ⟨a, b⟩ := z_add zero_fin.1 hI zero_fin.2
  obtain ⟨c, d⟩ := add_z a hN.1 hN.2
  exact ⟨c, d.trans b⟩

end Go.Proofs.Ytpmjheofjmdfeaa.snapNum

namespace Go.Proofs.Ytpmjheofjmdfeaa.snapNum2
open Go.ChangeShapes Go.WideShapes Go.ChangeAt Go.RowKit
open Go.ChangeMaps (open_string shut_string)
set_option linter.unusedVariables false
open Go Ieee Go.RowKit
open Go.Proofs.Ytpmjheofjmdfeaa.slc Go.Proofs.Ytpmjheofjmdfeaa.small Go.Proofs.Ytpmjheofjmdfeaa.fWalk Go.Proofs.Ytpmjheofjmdfeaa.steerNum Go.Proofs.Ytpmjheofjmdfeaa.sineIn Go.Proofs.Ytpmjheofjmdfeaa.floats Go.Proofs.Ytpmjheofjmdfeaa.round Go.Proofs.Ytpmjheofjmdfeaa.values Go.Proofs.Ytpmjheofjmdfeaa.conv Go.Proofs.Ytpmjheofjmdfeaa.float2 Go.Proofs.Ytpmjheofjmdfeaa.float3 Go.Proofs.Ytpmjheofjmdfeaa.phase Go.Proofs.Ytpmjheofjmdfeaa.sine Go.Proofs.Ytpmjheofjmdfeaa.phasor Go.Proofs.Ytpmjheofjmdfeaa.listC Go.Proofs.Ytpmjheofjmdfeaa.polyNum Go.Proofs.Ytpmjheofjmdfeaa.rq Go.Proofs.Ytpmjheofjmdfeaa.powW Go.Proofs.Ytpmjheofjmdfeaa.steerR Go.Proofs.Ytpmjheofjmdfeaa.mulAny Go.Proofs.Ytpmjheofjmdfeaa.fitsAny Go.Proofs.Ytpmjheofjmdfeaa.seeds Go.Proofs.Ytpmjheofjmdfeaa.symbol Go.Proofs.Ytpmjheofjmdfeaa.noise Go.Proofs.Ytpmjheofjmdfeaa.places Go.Proofs.Ytpmjheofjmdfeaa.steering Go.Proofs.Ytpmjheofjmdfeaa.srcs Go.Proofs.Ytpmjheofjmdfeaa.shot Go.Proofs.Ytpmjheofjmdfeaa.snap Go.Proofs.Ytpmjheofjmdfeaa.bits Go.Proofs.Ytpmjheofjmdfeaa.snapNum

theorem mp_mulw {x y : Nat × Nat} {a b : Nat} (hx : Cb x a) (hy : Cb y b) (h : a + b + 1 ≤ 127) : mp .sub x.1 x.2 y.1 y.2 = (mulw x y).1 ∧ mp .add x.1 x.2 y.2 y.1 = (mulw x y).2 ∧ Cb (mulw x y) (a + b + 1) := by
  obtain ⟨M, C⟩ := mul_ok hx hy h
  obtain ⟨_, A1⟩ := wd_in hx.1 (by omega)
  obtain ⟨_, A2⟩ := wd_in hx.2 (by omega)
  obtain ⟨_, B1⟩ := wd_in hy.1 (by omega)
  obtain ⟨_, B2⟩ := wd_in hy.2 (by omega)
  obtain ⟨_, p1⟩ := bv_mul A1 B1 (by omega)
  obtain ⟨_, p2⟩ := bv_mul A2 B2 (by omega)
  obtain ⟨_, p3⟩ := bv_mul A1 B2 (by omega)
  obtain ⟨_, p4⟩ := bv_mul A2 B1 (by omega)
  obtain ⟨_, q1⟩ := bv_sub p1 p2 (by omega)
  obtain ⟨_, q2⟩ := bv_add p3 p4 (by omega)
  refine ⟨?_, ?_, C⟩
  · unfold mp mw
    rw [cop_fin hx.1 (by omega), cop_fin hx.2 (by omega), cop_fin hy.1 (by omega), cop_fin hy.2 (by omega), fop_fin M.p1 p1.1, fop_fin M.p2 p2.1, fop_fin M.r q1.1]
    unfold cop
    rw [M.n1]
    exact can_fin (k := .f32) C.1.1
  · unfold mp mw
    rw [cop_fin hx.1 (by omega), cop_fin hx.2 (by omega), cop_fin hy.1 (by omega), cop_fin hy.2 (by omega), fop_fin M.p3 p3.1, fop_fin M.p4 p4.1, fop_fin M.i q2.1]
    unfold cop
    rw [M.n2]
    exact can_fin (k := .f32) C.2.1
theorem sg_tab : ∀ r : Nat, r < 8 → (rg single (fop .mul .f32 1056964608 (gq r)) < single.infRung ∧ (V single (fop .mul .f32 1056964608 (gq r))).natAbs ≤ 2 ^ 149) ∧ rg single (fop .mul .f32 3204448256 (gq r)) < single.infRung ∧ (V single (fop .mul .f32 3204448256 (gq r))).natAbs ≤ 2 ^ 149 := by decide +kernel
theorem sg_bs (b : Int) (r : Nat) (h : r < 8) : Bs (fop .mul .f32 (sy b) (gq r)) 0 := by
  obtain ⟨h1, h2⟩ := sg_tab r h
  unfold sy
  split
  · exact h1
  · exact h2
theorem sent_cb (s i : Int) (r : Nat) (h : r < 8) : Cb (sent s i (gq r)) 0 := ⟨sg_bs _ r h, sg_bs _ r h⟩
theorem word_le {op : BinOp} {x y r : Nat} (h : floatBits op .f32 x y = some r) : (r : Int) ≤ 4294967295 := wf32 (floatBits_wf h)
theorem zero_bs (e : Nat) : Bs 0 e := ⟨zero_fin.1, by rw [zero_fin.2]; exact Nat.zero_le _⟩
/-- A sum of +0, what comes in and noise. -/
theorem sum_word {I N : Nat} (hI : Bs I 2) (hN : Bs N 3) : FinW single (fop .add .f32 (fop .add .f32 0 I) N) ∧ ((fop .add .f32 (fop .add .f32 0 I) N : Nat) : Int) ≤ 4294967295 := by
  obtain ⟨e1, b1, _⟩ := add32 (zero_bs 2) hI (by omega)
  obtain ⟨e2, b2, _⟩ := add32 b1 hN (by omega)
  rw [fop_32 e1 b1.1, fop_32 e2 b2.1]
  exact ⟨b2.1, word_le e2⟩
/-- What is told of one element. -/
structure One (s f : Int) (r : Nat) (n : Int) (d1 d2 e1 e2 : Int) (p q : Nat) : Prop where
  fit1 : Fits .f64 (mw .sub p q (phz n).1 (phz n).2) .f32
  fit2 : Fits .f64 (mw .add p q (phz n).2 (phz n).1) .f32
  eq1 : ∀ o l : Nat, can .f32 o = mp .sub p q (phz n).1 (phz n).2 → can .f32 l = (plus (plus (0, 0) (inc (sent s f (gq r)) (phz n))) (nz d1 0, nz d2 0)).1 → (FloatKind.f32.format.order l o == some .eq) = true
  eq2 : ∀ o l : Nat, can .f32 o = mp .add p q (phz n).2 (phz n).1 → can .f32 l = (plus (plus (0, 0) (inc (sent s f (gq r)) (phz n))) (nz d1 0, nz d2 0)).2 → (FloatKind.f32.format.order l o == some .eq) = true
theorem one_is {s f : Int} {r : Nat} {n d1 d2 : Int} {p q : Nat} (hr : r < 8) (hn : n.natAbs ≤ 524288) (h1 : 0 ≤ d1 ∧ d1 ≤ 32767) (h2 : 0 ≤ d2 ∧ d2 ≤ 32767) (hp : can .f32 p = (sent s f (gq r)).1) (hq : can .f32 q = (sent s f (gq r)).2) : One s f r n d1 d2 0 0 p q := by
  have C := sent_cb s f r hr
  obtain ⟨P, _⟩ := ph_r n hn
  have ep := can_back hp C.1.1
  have eq := can_back hq C.2.1
  obtain ⟨m1, m2, m3⟩ := mp_mulw C P (by omega)
  obtain ⟨M, _⟩ := mul_ok C P (by omega)
  have hin : inc (sent s f (gq r)) (phz n) = mulw (sent s f (gq r)) (phz n) := Prod.ext m1 m2
  rw [ep, eq]
  have F := fit_all (s1 := sy (dr s (2 * f) / 16384)) (s2 := sy (dr s (2 * f) / 8192)) (g := gq r) (n := n) (sy_half _) (sy_half _) (show can .f32 (sent s f (gq r)).1 = _ from can_fin (k := .f32) C.1.1) (show can .f32 (sent s f (gq r)).2 = _ from can_fin (k := .f32) C.2.1) hn
  refine ⟨F.1, F.2, fun o l ho hl => ?_, fun o l ho hl => ?_⟩
  · rw [m1] at ho
    rw [hin] at hl
    have e1 := can_back ho m3.1.1
    obtain ⟨a, b⟩ := sum_val m3.1.1 (nz_zero d1 h1)
    have e2 := can_back hl a
    rw [e1, e2]
    exact eq_val a m3.1.1 b
  · rw [m2] at ho
    rw [hin] at hl
    have e1 := can_back ho m3.2.1
    obtain ⟨a, b⟩ := sum_val m3.2.1 (nz_zero d2 h2)
    have e2 := can_back hl a
    rw [e1, e2]
    exact eq_val a m3.2.1 b
theorem nz_bs {d : Int} (h : 0 ≤ d ∧ d ≤ 32767) : Bs (nz d 1048576000) 3 := by
  obtain ⟨a, b⟩ := nz_quart d h
  exact ⟨a, Nat.le_trans b (by decide +kernel)⟩
/-- A noisy number, as a word. -/
theorem two_is {s f : Int} {r : Nat} {n d1 d2 : Int} (hr : r < 8) (hn : n.natAbs ≤ 524288) (h1 : 0 ≤ d1 ∧ d1 ≤ 32767) (h2 : 0 ≤ d2 ∧ d2 ≤ 32767) :
    ∃ X Y : Nat, (X : Int) ≤ 4294967295 ∧ (Y : Int) ≤ 4294967295 ∧ FinW single X ∧ FinW single Y ∧ (∀ l : Nat, can .f32 l = (plus (plus (0, 0) (inc (sent s f (gq r)) (phz n))) (nz d1 1048576000, nz d2 1048576000)).1 → l = X) ∧ ∀ l : Nat, can .f32 l = (plus (plus (0, 0) (inc (sent s f (gq r)) (phz n))) (nz d1 1048576000, nz d2 1048576000)).2 → l = Y := by
  have C := sent_cb s f r hr
  obtain ⟨P, _⟩ := ph_r n hn
  obtain ⟨m1, m2, m3⟩ := mp_mulw C P (by omega)
  have hin : inc (sent s f (gq r)) (phz n) = mulw (sent s f (gq r)) (phz n) := Prod.ext m1 m2
  rw [hin]
  obtain ⟨a1, a2⟩ := sum_word m3.1 (nz_bs h1)
  obtain ⟨b1, b2⟩ := sum_word m3.2 (nz_bs h2)
  exact ⟨_, _, a2, b2, a1, b1, fun l hl => can_back hl a1, fun l hl => can_back hl b1⟩
theorem so_one (ps : List (Int × Int)) (u v : Int) (g : Nat) (s i : Int) (t : Nat) (q : Nat) (hq : q < ps.length) :
    so ps [(u, v, g, s)] t s i q = plus (plus (0, 0) (inc (sent s i g) (phz (ps[q].1 * u + ps[q].2 * v)))) (nse s i (q : Int) t) := by
  unfold so
  show plus (plus (0, 0) (inc (sent s i g) ((stl ps u v).getD q (0, 0)))) _ = _
  rw [stl_at ps u v q hq]
theorem at_bd {ps : List (Int × Int)} {u v : Int} (hv : vp ps = true) (hd : dirB u v = true) (q : Nat) (hq : q < ps.length) : (ps[q].1 * u + ps[q].2 * v).natAbs ≤ 524288 := by
  obtain ⟨_, _, h, _⟩ := vp_yes hv
  exact (steps_bd (h _ (List.getElem_mem hq)) hd).1
theorem pow_half (a b : Int) : nw (pwW (sy a, sy b)) = 1056964608 ∧ Cb (sy a, sy b) 0 := by
  have h : ∀ x ∈ [(1056964608 : Nat), 3204448256], ∀ y ∈ [(1056964608 : Nat), 3204448256], nw (pwW (x, y)) = 1056964608 ∧ (rg single x < single.infRung ∧ (V single x).natAbs ≤ 2 ^ 149) ∧ rg single y < single.infRung ∧ (V single y).natAbs ≤ 2 ^ 149 := by decide +kernel
  have hs : ∀ c, sy c ∈ [(1056964608 : Nat), 3204448256] := fun c => by unfold sy; split <;> simp
  exact h _ (hs a) _ (hs b)
theorem sy_or (b : Int) : sy b = 1056964608 ∨ sy b = 3204448256 := by unfold sy; split; exact .inl rfl; exact .inr rfl
theorem sy_eq (b : Int) : (FloatKind.f32.format.order (sy b) (sy b) == some .eq) = true := by
  rcases sy_or b with h | h <;> rw [h] <;> decide +kernel
theorem sy_ne (b : Int) : (FloatKind.f32.format.order (Op.negFloat .f32 (sy b)) (sy b) == some .eq) = false := by
  rcases sy_or b with h | h <;> rw [h] <;> decide +kernel
theorem sg_some : ∀ r : Nat, r < 8 → floatBits .mul .f32 1056964608 (gq r) = some (fop .mul .f32 1056964608 (gq r)) ∧ floatBits .mul .f32 3204448256 (gq r) = some (fop .mul .f32 3204448256 (gq r)) := by decide +kernel
theorem sg_is (b : Int) (r : Nat) (h : r < 8) : floatBits .mul .f32 (sy b) (gq r) = some (fop .mul .f32 (sy b) (gq r)) := by
  obtain ⟨h1, h2⟩ := sg_some r h
  unfold sy
  split
  · exact h1
  · exact h2
theorem run32 {op : BinOp} {x y r : Nat} (h : floatBits op .f32 x y = some r) (ha : arithOp op = true) (w : World) (t : TypeId) : (binOp op t (.float .f32 x) (.float .f32 y)).run Try.prog w = .ok (.float .f32 r) w := by
  rw [run_floatop w op t .f32 x y ha]
  have e1 : fval op .f32 w x y = r := by unfold fval; rw [h]
  have e2 : fcnt op .f32 x y = 0 := by unfold fcnt; rw [h]; rfl
  rw [e1, e2]
  rfl
theorem scale_q {a b t p q : Nat} (h1 : floatBits .mul .f32 a t = some p) (h2 : floatBits .mul .f32 b t = some q) (w : World) :
    Calls Try.prog 33 #[.complex .f32 a b, .float .f32 t] w fun e w' => e = .returned (.complex .f32 p q) ∧ w = w' := by
  have r1 := fun (w : World) => run32 h1 rfl w 35
  have r2 := fun (w : World) => run32 h2 rfl w 35
  clear h1 h2
  go_enter Try.func33, Try.ntmps33
  go_wp2
  go_ret
  exact ⟨rfl, rfl⟩
/-- The same with exact words. -/
theorem one_q {s f : Int} {r : Nat} {n d1 d2 : Int} (hr : r < 8) (hn : n.natAbs ≤ 524288) (h1 : 0 ≤ d1 ∧ d1 ≤ 32767) (h2 : 0 ≤ d2 ∧ d2 ≤ 32767) :
    MulOk (sent s f (gq r)) (phz n) ∧ ∀ l1 l2 : Nat, can .f32 l1 = (plus (plus (0, 0) (inc (sent s f (gq r)) (phz n))) (nz d1 0, nz d2 0)).1 → can .f32 l2 = (plus (plus (0, 0) (inc (sent s f (gq r)) (phz n))) (nz d1 0, nz d2 0)).2 →
      (FloatKind.f32.format.order l1 (mulw (sent s f (gq r)) (phz n)).1 == some .eq) = true ∧ (FloatKind.f32.format.order l2 (mulw (sent s f (gq r)) (phz n)).2 == some .eq) = true := by
  have C := sent_cb s f r hr
  obtain ⟨P, _⟩ := ph_r n hn
  obtain ⟨m1, m2, m3⟩ := mp_mulw C P (by omega)
  obtain ⟨M, _⟩ := mul_ok C P (by omega)
  have hin : inc (sent s f (gq r)) (phz n) = mulw (sent s f (gq r)) (phz n) := Prod.ext m1 m2
  rw [hin]
  refine ⟨M, fun l1 l2 hl1 hl2 => ?_⟩
  obtain ⟨a, b⟩ := sum_val m3.1.1 (nz_zero d1 h1)
  obtain ⟨c, d⟩ := sum_val m3.2.1 (nz_zero d2 h2)
  have e1 := can_back hl1 a
  have e2 := can_back hl2 c
  rw [e1, e2]
  exact ⟨eq_val a m3.1.1 b, eq_val c m3.2.1 d⟩

end Go.Proofs.Ytpmjheofjmdfeaa.snapNum2
