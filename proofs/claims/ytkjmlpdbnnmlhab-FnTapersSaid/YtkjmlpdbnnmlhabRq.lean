/- Floats as fractions: what an operation leaves is near to the exact number. -/
import Derived.Test.YtkjmlpdbnnmlhabSlc
import Derived.Test.YtkjmlpdbnnmlhabSmall
import Derived.Test.YtkjmlpdbnnmlhabOpens
import Derived.Test.YtkjmlpdbnnmlhabFloats
import Derived.Test.YtkjmlpdbnnmlhabRound
import Derived.Test.YtkjmlpdbnnmlhabValues
import Derived.Test.YtkjmlpdbnnmlhabConv
import Derived.Test.YtkjmlpdbnnmlhabFWalk
import Derived.Test.YtkjmlpdbnnmlhabFinWalk
import Derived.Test.YtkjmlpdbnnmlhabFloat2
import Derived.Test.YtkjmlpdbnnmlhabFloat3
import Derived.Test.YtkjmlpdbnnmlhabPhase
import Derived.Test.YtkjmlpdbnnmlhabSine
import Derived.Test.YtkjmlpdbnnmlhabPhasor
import Derived.Test.YtkjmlpdbnnmlhabListC
import Derived.Test.YtkjmlpdbnnmlhabSteerNum
import Derived.Test.YtkjmlpdbnnmlhabSineIn
import Derived.Test.YtkjmlpdbnnmlhabPolyNum
import Derived.Test.YtkjmlpdbnnmlhabGPoly
import Derived.Test.YtkjmlpdbnnmlhabGNum
namespace Go.Proofs.Ytkjmlpdbnnmlhab.rq
set_option linter.unusedVariables false
open Go Ieee
open Go.Proofs.Ytkjmlpdbnnmlhab.floats Go.Proofs.Ytkjmlpdbnnmlhab.round Go.Proofs.Ytkjmlpdbnnmlhab.values Go.Proofs.Ytkjmlpdbnnmlhab.conv Go.Proofs.Ytkjmlpdbnnmlhab.float2 Go.Proofs.Ytkjmlpdbnnmlhab.float3 Go.Proofs.Ytkjmlpdbnnmlhab.phase Go.Proofs.Ytkjmlpdbnnmlhab.sine Go.Proofs.Ytkjmlpdbnnmlhab.phasor Go.Proofs.Ytkjmlpdbnnmlhab.listC Go.Proofs.Ytkjmlpdbnnmlhab.steerNum Go.Proofs.Ytkjmlpdbnnmlhab.sineIn Go.Proofs.Ytkjmlpdbnnmlhab.polyNum Go.Proofs.Ytkjmlpdbnnmlhab.gNum

/-- What is rounded moves by at most one mesh of a grid that the format has. -/
theorem rnd_grid (f : Format) {num : Int} {d r L B : Nat} (h : Rnd f num d r) (grid : ∀ k : Int, k.natAbs ≤ B → ∃ c, FinW f c ∧ V f c = k * 2 ^ L) (hb : num.natAbs < B * 2 ^ (L + d)) : (V f r * 2 ^ d - num).natAbs ≤ 2 ^ (L + d) := by
  have hS : (0 : Int) < ((2 ^ (L + d) : Nat) : Int) := Int.natCast_pos.2 (Nat.two_pow_pos _)
  have e : ∀ k : Int, k * 2 ^ L * 2 ^ d = k * ((2 ^ (L + d) : Nat) : Int) := fun k => by
    rw [pc L, pc d, Int.mul_assoc, ← Int.natCast_mul, ← Nat.pow_add]
  have hb2 : (num.natAbs : Int) < (B : Int) * ((2 ^ (L + d) : Nat) : Int) := by
    rw [← Int.natCast_mul]
    exact Int.ofNat_lt.2 hb
  generalize 2 ^ (L + d) = S at *
  have k1 := Int.mul_ediv_add_emod num S
  have k2 := Int.emod_nonneg num (show (S : Int) ≠ 0 by omega)
  have k3 := Int.emod_lt_of_pos num hS
  rw [Int.mul_comm] at k1
  generalize num / S = k at *
  generalize num % S = m at *
  have u1 : k < B := by
    rcases Int.lt_or_le k B with h' | h'
    · exact h'
    · have := Int.mul_le_mul_of_nonneg_right h' (Int.le_of_lt hS)
      omega
  have u2 : -(B : Int) ≤ k := by
    rcases Int.lt_or_le k (-(B : Int)) with h' | h'
    · have := Int.mul_le_mul_of_nonneg_right (show k ≤ -(B : Int) - 1 by omega) (Int.le_of_lt hS)
      rw [Int.sub_mul, Int.neg_mul] at this
      omega
    · exact h'
  obtain ⟨c, c1, c2⟩ := grid k (by omega)
  obtain ⟨c', c1', c2'⟩ := grid (k + 1) (by omega)
  have hd : (0 : Int) < 2 ^ d := by rw [pc]; exact Int.natCast_pos.2 (Nat.two_pow_pos _)
  have h1 := h.ge c c1 (by rw [c2, e]; omega)
  have h2 := h.le c' c1' (by rw [c2', e, Int.add_mul]; omega)
  have h1' := Int.mul_le_mul_of_nonneg_right h1 (Int.le_of_lt hd)
  have h2' := Int.mul_le_mul_of_nonneg_right h2 (Int.le_of_lt hd)
  rw [c2, e] at h1'
  rw [c2', e, Int.add_mul] at h2'
  omega
theorem grid32 (L : Nat) (h1 : 23 ≤ L) (h2 : L ≤ 225) : ∀ k : Int, k.natAbs ≤ 2 ^ 23 → ∃ c, FinW single c ∧ V single c = k * 2 ^ L := by
  intro k hk
  by_cases h0 : k = 0
  · subst h0
    exact ⟨0, by unfold FinW; decide +kernel, by rw [show V single 0 = 0 by decide +kernel, Int.zero_mul]⟩
  · have hn : k.natAbs ≠ 0 := by omega
    have l1 := Nat.log2_self_le hn
    have l2 : k.natAbs < 2 ^ (k.natAbs.log2 + 1) := Nat.lt_log2_self
    have l3 : k.natAbs.log2 < 24 := (Nat.log2_lt hn).2 (by omega)
    generalize hlg : k.natAbs.log2 = g at *
    have K1 : 2 ^ 23 ≤ k.natAbs * 2 ^ (23 - g) := by
      have := Nat.mul_le_mul_right (2 ^ (23 - g)) l1
      rwa [← Nat.pow_add, show g + (23 - g) = 23 by omega] at this
    have K2 : k.natAbs * 2 ^ (23 - g) < 2 * 2 ^ 23 := by
      have := Nat.mul_lt_mul_of_pos_right l2 (Nat.two_pow_pos (23 - g))
      rwa [← Nat.pow_add, show g + 1 + (23 - g) = 23 + 1 by omega, Nat.pow_succ, Nat.mul_comm (2 ^ 23)] at this
    have hm := mv_block32 (L := L - (23 - g)) K1 K2
    rw [Nat.mul_assoc, ← Nat.pow_add, show 23 - g + (L - (23 - g)) = L by omega] at hm
    generalize hr : (L - (23 - g)) * 2 ^ 23 + k.natAbs * 2 ^ (23 - g) = r at *
    have hri : r < single.infRung := by
      rw [inf32, ← hr]
      omega
    have hsw := inf_lt_sw single
    refine ⟨single.word (decide (k < 0)) r, ?_, ?_⟩
    · unfold FinW
      rw [rg_word single _ (by omega)]
      exact hri
    · rw [V_word single _ (by omega), hm, sg_k]
theorem grid64 (d : Nat) (h1 : 52 ≤ d) (h2 : d ≤ 1900) : ∀ k : Int, k.natAbs ≤ 2 ^ 51 → ∃ c, FinW double c ∧ V double c = k * 2 ^ d := by
  intro k hk
  by_cases h0 : k = 0
  · subst h0
    exact ⟨0, F_zero, by rw [V_zero, Int.zero_mul]⟩
  · have hn : k.natAbs ≠ 0 := by omega
    have l1 := Nat.log2_self_le hn
    have l2 : k.natAbs < 2 ^ (k.natAbs.log2 + 1) := Nat.lt_log2_self
    have l3 : k.natAbs.log2 < 53 := (Nat.log2_lt hn).2 (by omega)
    generalize hlg : k.natAbs.log2 = g at *
    have K1 : 2 ^ 52 ≤ k.natAbs * 2 ^ (52 - g) := by
      have := Nat.mul_le_mul_right (2 ^ (52 - g)) l1
      rwa [← Nat.pow_add, show g + (52 - g) = 52 by omega] at this
    have K2 : k.natAbs * 2 ^ (52 - g) < 2 * 2 ^ 52 := by
      have := Nat.mul_lt_mul_of_pos_right l2 (Nat.two_pow_pos (52 - g))
      rwa [← Nat.pow_add, show g + 1 + (52 - g) = 52 + 1 by omega, Nat.pow_succ, Nat.mul_comm (2 ^ 52)] at this
    have hm := mv_block (L := d - (52 - g)) K1 K2
    rw [Nat.mul_assoc, ← Nat.pow_add, show 52 - g + (d - (52 - g)) = d by omega] at hm
    generalize hr : (d - (52 - g)) * 2 ^ 52 + k.natAbs * 2 ^ (52 - g) = r at *
    have hri : r < double.infRung := by
      rw [inf64, ← hr]
      have : d - (52 - g) ≤ 1900 := by omega
      omega
    have hsw := inf_lt_sw double
    refine ⟨double.word (decide (k < 0)) r, ?_, ?_⟩
    · unfold FinW
      rw [rg_word double _ (by omega)]
      exact hri
    · rw [V_word double _ (by omega), hm, sg_k]

/-! ## as fractions -/
def two (e : Nat) : Rat := ((2 ^ e : Nat) : Rat)
theorem two_pos (e : Nat) : 0 < two e := by
  have := Nat.two_pow_pos e
  unfold two
  exact_mod_cast this
theorem two_add (a b : Nat) : two (a + b) = two a * two b := by
  unfold two
  rw [Nat.pow_add]
  push_cast
  rfl
def r32 (x : Nat) : Rat := (V single x : Rat) / two 149
def r64 (x : Nat) : Rat := (V double x : Rat) / two D64
/-- a is at most e away from b. -/
def nr (a b e : Rat) : Prop := a - b ≤ e ∧ b - a ≤ e
theorem nr_of {x y : Int} {P Q : Rat} {n : Nat} (h : (x - y).natAbs ≤ n) (hP : 0 < P) (e : (n : Rat) ≤ Q * P) : nr ((x : Rat) / P) ((y : Rat) / P) Q := by
  have h1 : x - y ≤ n := by omega
  have h2 : y - x ≤ n := by omega
  have a1 : (x : Rat) - (y : Rat) ≤ (n : Rat) := by exact_mod_cast h1
  have a2 : (y : Rat) - (x : Rat) ≤ (n : Rat) := by exact_mod_cast h2
  have b1 : (x : Rat) - y ≤ Q * P := Rat.le_trans a1 e
  have b2 : (y : Rat) - x ≤ Q * P := Rat.le_trans a2 e
  have hi := Rat.le_of_lt (Rat.inv_pos.2 hP)
  have c1 := Rat.mul_le_mul_of_nonneg_right b1 hi
  have c2 := Rat.mul_le_mul_of_nonneg_right b2 hi
  have hq : Q * P * P⁻¹ = Q := by grind
  rw [hq] at c1 c2
  unfold nr
  rw [Rat.div_def, Rat.div_def]
  constructor
  · grind
  · grind

theorem cast_pow (a : Int) (d : Nat) : ((a * 2 ^ d : Int) : Rat) = (a : Rat) * two d := by
  rw [pc d]
  unfold two
  push_cast
  rfl
theorem two_D : two D64 = two 149 * two 925 := by rw [← two_add, show 149 + 925 = D64 from rfl]
theorem r32_wide (x : Nat) : r32 x = ((V single x * 2 ^ 925 : Int) : Rat) / two D64 := by
  unfold r32
  rw [cast_pow, two_D]
  have := two_pos 149
  have := two_pos 925
  grind
theorem mesh (e k a b : Nat) (h : a = e + b) : ((2 ^ a : Nat) : Rat) ≤ two e / two k * two (k + b) := by
  have h1 : ((2 ^ a : Nat) : Rat) = two e * two b := by rw [← two_add, ← h]; rfl
  rw [h1, two_add]
  have := two_pos k
  have e2 : two e / two k * (two k * two b) = two e * two b := by grind
  rw [e2]
  exact Rat.le_refl
theorem read32 {x : Nat} (h : FinW single x) : ∃ (k : Int) (e : Nat), k.natAbs < 2 ^ 24 ∧ e ≤ 254 ∧ V single x = k * 2 ^ e := by
  have hV : V single x = sg (sgn single x) (mv single (rg single x)) := rfl
  have hr : rg single x < 255 * 2 ^ 23 := by have := h; unfold FinW at this; rwa [inf32p] at this
  unfold mv at hV
  rw [bi32p] at hV
  by_cases h1 : rg single x < 2 ^ 23
  · rw [if_pos h1] at hV
    exact ⟨sg (sgn single x) (rg single x), 0, by rw [sg_abs]; omega, by omega, by rw [hV]; simp⟩
  · rw [if_neg h1] at hV
    refine ⟨sg (sgn single x) (2 ^ 23 + rg single x % 2 ^ 23), rg single x / 2 ^ 23 - 1, ?_, ?_, ?_⟩
    · rw [sg_abs]
      have := Nat.mod_lt (rg single x) (show 0 < 2 ^ 23 by decide)
      omega
    · have : rg single x / 2 ^ 23 < 255 := Nat.div_lt_of_lt_mul (by omega)
      omega
    · rw [hV, pc, sg_mul]
theorem pow_split (k : Int) (g d : Nat) : k * 2 ^ (g + d) * 2 ^ 0 = k * 2 ^ g * 2 ^ d := by
  rw [Int.pow_zero, Int.mul_one, Int.pow_add]
  exact (Int.mul_assoc _ _ _).symm
/-- Widening is exact. -/
theorem wd_r {x : Nat} (h : FinW single x) : FinW double (wd x) ∧ r64 (wd x) = r32 x := by
  obtain ⟨r, hr, hrr⟩ := widen_rnd h
  have e : wd x = r := by unfold wd; rw [hr]; rfl
  obtain ⟨k, g, k1, k2, k3⟩ := read32 h
  obtain ⟨c, c1, c2⟩ := grid64 (g + 925) (by omega) (by omega) k (by omega)
  have hv : V double c * 2 ^ 0 = V single x * 2 ^ 925 := by rw [c2, k3, pow_split]
  have hx := rnd_exact hrr c1 hv
  refine ⟨by rw [e]; exact hrr.fin, ?_⟩
  rw [r32_wide]
  unfold r64
  rw [e, hx, ← hv]
  simp
/-- Narrowing. -/
theorem nw_r {x e : Nat} (h : Bd x (D64 + e)) (he : e ≤ 90) : Bs (nw x) e ∧ nr (r32 (nw x)) (r64 x) (two e / two 22) := by
  obtain ⟨e1, e2⟩ := nw_is h (by omega)
  refine ⟨e2, ?_⟩
  obtain ⟨r, hr, hrr⟩ := narrow_rnd h.1 (hi := ps e) (ps_inf (by omega)) (by rw [nb]; exact h.2)
  have er : r = nw x := by rw [e1] at hr; exact (Option.some.inj hr).symm
  subst er
  have hg := rnd_grid single (L := 127 + e) hrr (grid32 (127 + e) (by omega) (by omega)) (by
    refine Nat.lt_of_le_of_lt h.2 ?_
    rw [← Nat.pow_add]
    exact Nat.pow_lt_pow_right (by omega) (by rw [D64_is]; omega))
  rw [r32_wide]
  unfold r64
  refine nr_of hg (two_pos _) ?_
  have := mesh e 22 (127 + e + 925) 1052 (by omega)
  rwa [show 22 + 1052 = D64 from rfl] at this

/-! ## operations of 32 bits -/
theorem meshlt (num : Int) (a b c : Nat) (h : num.natAbs ≤ 2 ^ a) (hab : a < b + c) : num.natAbs < 2 ^ b * 2 ^ c := by
  refine Nat.lt_of_le_of_lt h ?_
  rw [← Nat.pow_add]
  exact Nat.pow_lt_pow_right (by omega) hab
theorem abs_add {x y : Int} {e : Nat} (hx : x.natAbs ≤ 2 ^ e) (hy : y.natAbs ≤ 2 ^ e) : (x + y).natAbs ≤ 2 ^ (e + 1) := by
  rw [Nat.pow_succ]; omega
theorem abs_sub {x y : Int} {e : Nat} (hx : x.natAbs ≤ 2 ^ e) (hy : y.natAbs ≤ 2 ^ e) : (x - y).natAbs ≤ 2 ^ (e + 1) := by
  rw [Nat.pow_succ]; omega
theorem abs_mul {x y : Int} {a b : Nat} (hx : x.natAbs ≤ 2 ^ a) (hy : y.natAbs ≤ 2 ^ b) : (x * y).natAbs ≤ 2 ^ (a + b) := by
  rw [Int.natAbs_mul, Nat.pow_add]; exact Nat.mul_le_mul hx hy
theorem near32 {num : Int} {r e d : Nat} (h : Rnd single num d r) (hb : num.natAbs ≤ 2 ^ (149 + d + e)) (he : e ≤ 90) : Bs r e ∧ nr (r32 r) ((num : Rat) / (two 149 * two d)) (two e / two 22) := by
  refine ⟨rnd_bs h (by omega) (Nat.le_trans hb (Nat.le_of_eq (by rw [← Nat.pow_add]; congr 1; omega))), ?_⟩
  have hg := rnd_grid single (L := 127 + e) h (grid32 (127 + e) (by omega) (by omega)) (meshlt num _ 23 _ hb (by omega))
  have hm := mesh e 22 (127 + e + d) (127 + d) (by omega)
  rw [show 22 + (127 + d) = 149 + d by omega, two_add 149] at hm
  have hn := nr_of hg (P := two 149 * two d) (Rat.mul_pos (two_pos _) (two_pos _)) hm
  have e1 : ((V single r * 2 ^ d : Int) : Rat) / (two 149 * two d) = r32 r := by
    rw [cast_pow]
    unfold r32
    have := two_pos 149
    have := two_pos d
    grind
  rwa [e1] at hn
theorem own_r64 (r d : Nat) : ((V double r * 2 ^ d : Int) : Rat) / (two D64 * two d) = r64 r := by
  rw [cast_pow]
  unfold r64
  have := two_pos D64
  have := two_pos d
  grind
theorem prod_r32 (x y : Nat) : ((V single x * V single y : Int) : Rat) / (two 149 * two 149) = r32 x * r32 y := by
  unfold r32
  push_cast
  have := two_pos 149
  grind
theorem near64 {num : Int} {r e d : Nat} (h : Rnd double num d r) (hb : num.natAbs ≤ 2 ^ (D64 + d + e)) (he : e ≤ 200) : Bd r (D64 + e) ∧ nr (r64 r) ((num : Rat) / (two D64 * two d)) (two e / two 50) := by
  have hD := D64_is
  refine ⟨rnd_bd h (by omega) (by omega) (Nat.le_trans hb (Nat.le_of_eq (by rw [← Nat.pow_add]; congr 1; omega))), ?_⟩
  have hg := rnd_grid double (L := 1024 + e) h (grid64 (1024 + e) (by omega) (by omega)) (meshlt num _ 51 _ hb (by omega))
  have hm := mesh e 50 (1024 + e + d) (1024 + d) (by omega)
  rw [show 50 + (1024 + d) = D64 + d by omega, two_add D64] at hm
  have hn := nr_of hg (P := two D64 * two d) (Rat.mul_pos (two_pos _) (two_pos _)) hm
  rwa [own_r64 r d] at hn
theorem two_zero : two 0 = 1 := by unfold two; rfl
theorem add32 {x y e : Nat} (hx : Bs x e) (hy : Bs y e) (he : e ≤ 89) : floatBits .add .f32 x y = some (ba32 x y) ∧ Bs (ba32 x y) (e + 1) ∧ nr (r32 (ba32 x y)) (r32 x + r32 y) (two (e + 1) / two 22) := by
  have hb := abs_add hx.2 hy.2
  obtain ⟨r, hr, hrr⟩ := add_rnd single hx.1 hy.1 (hi := ps (e + 1)) (ps_inf (by omega)) (by rw [mv_ps]; exact hb)
  have er : ba32 x y = r := by unfold ba32; rw [show floatBits .add .f32 x y = some r from hr]; rfl
  obtain ⟨b1, b2⟩ := near32 (e := e + 1) hrr (by rw [show 149 + 0 + (e + 1) = 149 + e + 1 by omega]; exact hb) (by omega)
  rw [er]
  refine ⟨hr, b1, ?_⟩
  have e2 : ((V single x + V single y : Int) : Rat) / (two 149 * two 0) = r32 x + r32 y := by
    unfold r32
    rw [two_zero]
    push_cast
    have := two_pos 149
    grind
  rwa [e2] at b2
theorem sub32 {x y e : Nat} (hx : Bs x e) (hy : Bs y e) (he : e ≤ 89) : floatBits .sub .f32 x y = some (bs32 x y) ∧ Bs (bs32 x y) (e + 1) ∧ nr (r32 (bs32 x y)) (r32 x - r32 y) (two (e + 1) / two 22) := by
  have hb := abs_sub hx.2 hy.2
  obtain ⟨r, hr, hrr⟩ := sub_rnd single hx.1 hy.1 (hi := ps (e + 1)) (ps_inf (by omega)) (by rw [mv_ps]; exact hb)
  have er : bs32 x y = r := by unfold bs32; rw [show floatBits .sub .f32 x y = some r from hr]; rfl
  obtain ⟨b1, b2⟩ := near32 (e := e + 1) hrr (by rw [show 149 + 0 + (e + 1) = 149 + e + 1 by omega]; exact hb) (by omega)
  rw [er]
  refine ⟨hr, b1, ?_⟩
  have e2 : ((V single x - V single y : Int) : Rat) / (two 149 * two 0) = r32 x - r32 y := by
    unfold r32
    rw [two_zero]
    push_cast
    have := two_pos 149
    grind
  rwa [e2] at b2
def bm32 (x y : Nat) : Nat := (floatBits .mul .f32 x y).getD 0
theorem mul32 {x y a b : Nat} (hx : Bs x a) (hy : Bs y b) (he : a + b ≤ 90) : floatBits .mul .f32 x y = some (bm32 x y) ∧ Bs (bm32 x y) (a + b) ∧ nr (r32 (bm32 x y)) (r32 x * r32 y) (two (a + b) / two 22) := by
  have hb := abs_mul hx.2 hy.2
  obtain ⟨r, hr, hrr, _⟩ := mul_rnd single (D := 149) (by rw [lp32]; rfl) hx.1 hy.1 (hi := ps (a + b)) (ps_inf (by omega)) (by rw [mv_ps, ← Nat.pow_add, show 149 + (a + b) + 149 = 149 + a + (149 + b) by omega]; exact hb)
  have er : bm32 x y = r := by unfold bm32; rw [show floatBits .mul .f32 x y = some r from hr]; rfl
  obtain ⟨b1, b2⟩ := near32 (e := a + b) hrr (by rw [show 149 + 149 + (a + b) = 149 + a + (149 + b) by omega]; exact hb) (by omega)
  rw [er]
  refine ⟨hr, b1, ?_⟩
  rwa [prod_r32] at b2

/-! ## operations of 64 bits -/
theorem mul64 {x y a b : Nat} (hx : Bd x (D64 + a)) (hy : Bd y (D64 + b)) (he : a + b ≤ 200) : floatBits .mul .f64 x y = some (bv .mul x y) ∧ Bd (bv .mul x y) (D64 + (a + b)) ∧ nr (r64 (bv .mul x y)) (r64 x * r64 y) (two (a + b) / two 50) := by
  have hD := D64_is
  have hb := abs_mul hx.2 hy.2
  obtain ⟨r, hr, hrr, _⟩ := mul_rnd double (D := D64) lpD hx.1 hy.1 (hi := pw (D64 + (a + b))) (pw_inf (by omega)) (by rw [mv_pw (by omega), ← Nat.pow_add, show D64 + (a + b) + D64 = D64 + a + (D64 + b) by omega]; exact hb)
  have er := (bv_some (show floatBits .mul .f64 x y = some r from hr)).2
  obtain ⟨b1, b2⟩ := near64 (e := a + b) hrr (by rw [show D64 + D64 + (a + b) = D64 + a + (D64 + b) by omega]; exact hb) (by omega)
  rw [er]
  refine ⟨hr, b1, ?_⟩
  have e2 : ((V double x * V double y : Int) : Rat) / (two D64 * two D64) = r64 x * r64 y := by
    unfold r64
    push_cast
    have := two_pos D64
    grind
  rwa [e2] at b2
theorem add64 {x y e : Nat} (hx : Bd x (D64 + e)) (hy : Bd y (D64 + e)) (he : e ≤ 199) : floatBits .add .f64 x y = some (bv .add x y) ∧ Bd (bv .add x y) (D64 + (e + 1)) ∧ nr (r64 (bv .add x y)) (r64 x + r64 y) (two (e + 1) / two 50) := by
  have hD := D64_is
  have hb := abs_add hx.2 hy.2
  obtain ⟨r, hr, hrr⟩ := add_rnd double hx.1 hy.1 (hi := pw (D64 + e + 1)) (pw_inf (by omega)) (by rw [mv_pw (by omega)]; exact hb)
  have er := (bv_some (show floatBits .add .f64 x y = some r from hr)).2
  obtain ⟨b1, b2⟩ := near64 (e := e + 1) hrr (by rw [show D64 + 0 + (e + 1) = D64 + e + 1 by omega]; exact hb) (by omega)
  rw [er]
  refine ⟨hr, b1, ?_⟩
  have e2 : ((V double x + V double y : Int) : Rat) / (two D64 * two 0) = r64 x + r64 y := by
    unfold r64
    rw [two_zero]
    push_cast
    have := two_pos D64
    grind
  rwa [e2] at b2
theorem sub64 {x y e : Nat} (hx : Bd x (D64 + e)) (hy : Bd y (D64 + e)) (he : e ≤ 199) : floatBits .sub .f64 x y = some (bv .sub x y) ∧ Bd (bv .sub x y) (D64 + (e + 1)) ∧ nr (r64 (bv .sub x y)) (r64 x - r64 y) (two (e + 1) / two 50) := by
  have hD := D64_is
  have hb := abs_sub hx.2 hy.2
  obtain ⟨r, hr, hrr⟩ := sub_rnd double hx.1 hy.1 (hi := pw (D64 + e + 1)) (pw_inf (by omega)) (by rw [mv_pw (by omega)]; exact hb)
  have er := (bv_some (show floatBits .sub .f64 x y = some r from hr)).2
  obtain ⟨b1, b2⟩ := near64 (e := e + 1) hrr (by rw [show D64 + 0 + (e + 1) = D64 + e + 1 by omega]; exact hb) (by omega)
  rw [er]
  refine ⟨hr, b1, ?_⟩
  have e2 : ((V double x - V double y : Int) : Rat) / (two D64 * two 0) = r64 x - r64 y := by
    unfold r64
    rw [two_zero]
    push_cast
    have := two_pos D64
    grind
  rwa [e2] at b2

/-! ## complex products -/
theorem nr_trans {a b c e f : Rat} (h : nr a b e) (h' : nr b c f) : nr a c (e + f) := by unfold nr at *; grind
theorem nr_mono {a b e f : Rat} (h : nr a b e) (hef : e ≤ f) : nr a b f := by unfold nr at *; grind
theorem nr_add {a b c d e f : Rat} (h : nr a b e) (h' : nr c d f) : nr (a + c) (b + d) (e + f) := by unfold nr at *; grind
theorem nr_sub {a b c d e f : Rat} (h : nr a b e) (h' : nr c d f) : nr (a - c) (b - d) (e + f) := by unfold nr at *; grind
theorem two_num (e : Nat) (m : Nat) (h : 2 ^ e = m) : two e = (m : Rat) := by unfold two; rw [h]
theorem mul_near {x y : Nat × Nat} {a b : Nat} (hx : Cb x a) (hy : Cb y b) (h : a + b + 1 ≤ 89) :
    nr (r32 (mulw x y).1) (r32 x.1 * r32 y.1 - r32 x.2 * r32 y.2) (two (a + b + 1) / two 20) ∧ nr (r32 (mulw x y).2) (r32 x.1 * r32 y.2 + r32 x.2 * r32 y.1) (two (a + b + 1) / two 20) := by
  obtain ⟨_, x1⟩ := wd_in hx.1 (by omega)
  obtain ⟨_, x2⟩ := wd_in hx.2 (by omega)
  obtain ⟨_, y1⟩ := wd_in hy.1 (by omega)
  obtain ⟨_, y2⟩ := wd_in hy.2 (by omega)
  have vx1 := (wd_r hx.1.1).2
  have vx2 := (wd_r hx.2.1).2
  have vy1 := (wd_r hy.1.1).2
  have vy2 := (wd_r hy.2.1).2
  obtain ⟨_, p1, q1⟩ := mul64 x1 y1 (by omega)
  obtain ⟨_, p2, q2⟩ := mul64 x2 y2 (by omega)
  obtain ⟨_, p3, q3⟩ := mul64 x1 y2 (by omega)
  obtain ⟨_, p4, q4⟩ := mul64 x2 y1 (by omega)
  rw [vx1, vy1] at q1
  rw [vx2, vy2] at q2
  rw [vx1, vy2] at q3
  rw [vx2, vy1] at q4
  obtain ⟨_, s1, t1⟩ := sub64 p1 p2 (by omega)
  obtain ⟨_, s2, t2⟩ := add64 p3 p4 (by omega)
  obtain ⟨_, u1⟩ := nw_r (e := a + b + 1) s1 (by omega)
  obtain ⟨_, u2⟩ := nw_r (e := a + b + 1) s2 (by omega)
  have z1 := nr_trans u1 (nr_trans t1 (nr_sub q1 q2))
  have z2 := nr_trans u2 (nr_trans t2 (nr_add q3 q4))
  have hT : two (a + b + 1) = two (a + b) * 2 := by rw [two_add]; rfl
  have hp := two_pos (a + b)
  rw [hT, two_num 22 4194304 rfl, two_num 50 1125899906842624 rfl] at z1 z2
  rw [hT, two_num 20 1048576 rfl]
  exact ⟨nr_mono z1 (by grind), nr_mono z2 (by grind)⟩
theorem nr_sq {a e : Rat} (h : nr a 0 e) : a * a ≤ e * e := by
  have h1 : 0 ≤ e - a := by unfold nr at h; grind
  have h2 : 0 ≤ e + a := by unfold nr at h; grind
  have h3 := Rat.mul_nonneg h1 h2
  grind

end Go.Proofs.Ytkjmlpdbnnmlhab.rq
