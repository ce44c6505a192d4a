/- What a source sends, times a phase, can be narrowed: it is finite, infinite or a not-a-number in 64 bits, and not too great. -/
import Derived.Test.YtabbfpjngbiohaaRows
import Derived.Test.YtabbfpjngbiohaaSlc
import Derived.Test.YtabbfpjngbiohaaSmall
import Derived.Test.YtabbfpjngbiohaaOpens
import Derived.Test.YtabbfpjngbiohaaFloats
import Derived.Test.YtabbfpjngbiohaaRound
import Derived.Test.YtabbfpjngbiohaaValues
import Derived.Test.YtabbfpjngbiohaaConv
import Derived.Test.YtabbfpjngbiohaaFWalk
import Derived.Test.YtabbfpjngbiohaaFinWalk
import Derived.Test.YtabbfpjngbiohaaRoot
import Derived.Test.YtabbfpjngbiohaaFloat2
import Derived.Test.YtabbfpjngbiohaaFloat3
import Derived.Test.YtabbfpjngbiohaaPhase
import Derived.Test.YtabbfpjngbiohaaSine
import Derived.Test.YtabbfpjngbiohaaPhasor
import Derived.Test.YtabbfpjngbiohaaListC
import Derived.Test.YtabbfpjngbiohaaSteerNum
import Derived.Test.YtabbfpjngbiohaaSineIn
import Derived.Test.YtabbfpjngbiohaaPolyNum
import Derived.Test.YtabbfpjngbiohaaPolyW
import Derived.Test.YtabbfpjngbiohaaGPoly
import Derived.Test.YtabbfpjngbiohaaGNum
import Derived.Test.YtabbfpjngbiohaaRq
import Derived.Test.YtabbfpjngbiohaaPowW
import Derived.Test.YtabbfpjngbiohaaTwinNum
import Derived.Test.YtabbfpjngbiohaaPhDef
import Derived.Test.YtabbfpjngbiohaaPhTabA
import Derived.Test.YtabbfpjngbiohaaPhTabB
import Derived.Test.YtabbfpjngbiohaaPhTabC
import Derived.Test.YtabbfpjngbiohaaPhTabD
import Derived.Test.YtabbfpjngbiohaaPhVal
import Derived.Test.YtabbfpjngbiohaaPhMath
import Derived.Test.YtabbfpjngbiohaaPhPhi
import Derived.Test.YtabbfpjngbiohaaSteerR
import Derived.Test.YtabbfpjngbiohaaMulAny
import Derived.WalkKit
import Derived.ProofKit
import Derived.OpenShut
import Derived.ShutString
import Derived.ChangeOld
import Derived.Below
import Derived.Lib.Hide
import Derived.BigQuiet
import Derived.Deep.QuietTactic
import Derived.WalkLawsBesides
import Derived.Outline
namespace Go.Proofs.Ytabbfpjngbiohaa.fitsAny
open Go.ChangeShapes Go.WideShapes Go.ChangeAt Go.RowKit
open Go.ChangeMaps (open_string shut_string)
set_option linter.unusedVariables false
open Go Ieee Go.RowKit
open Go.Proofs.Ytabbfpjngbiohaa.slc Go.Proofs.Ytabbfpjngbiohaa.floats Go.Proofs.Ytabbfpjngbiohaa.round Go.Proofs.Ytabbfpjngbiohaa.values Go.Proofs.Ytabbfpjngbiohaa.conv Go.Proofs.Ytabbfpjngbiohaa.fWalk Go.Proofs.Ytabbfpjngbiohaa.float2 Go.Proofs.Ytabbfpjngbiohaa.float3 Go.Proofs.Ytabbfpjngbiohaa.phase Go.Proofs.Ytabbfpjngbiohaa.sine Go.Proofs.Ytabbfpjngbiohaa.phasor Go.Proofs.Ytabbfpjngbiohaa.listC Go.Proofs.Ytabbfpjngbiohaa.steerNum Go.Proofs.Ytabbfpjngbiohaa.sineIn Go.Proofs.Ytabbfpjngbiohaa.polyNum Go.Proofs.Ytabbfpjngbiohaa.rq Go.Proofs.Ytabbfpjngbiohaa.steerR Go.Proofs.Ytabbfpjngbiohaa.mulAny

/-! ## numbers that are not finite -/
theorem inf_nf (k : FloatKind) (s : Bool) : ¬ FinW k.format (can k (k.format.write (.infinity s))) := by
  unfold FinW
  cases k <;> cases s <;> decide +kernel
theorem nan_nf (k : FloatKind) : ¬ FinW k.format (nan k) := by
  unfold FinW
  cases k <;> decide +kernel
theorem nfk (k : FloatKind) {x : Nat} (h : ¬ FinW k.format x) : (∃ s, k.format.read x = .infinity s) ∨ isNaN k x = true := by
  cases k
  · rcases kinds32 x with h1 | ⟨s, h1, _⟩ | h1
    · exact absurd h1 h
    · exact .inl ⟨s, h1⟩
    · exact .inr h1
  · rcases kinds64 x with h1 | ⟨s, h1, _⟩ | h1
    · exact absurd h1 h
    · exact .inl ⟨s, h1⟩
    · exact .inr h1
theorem out_nf (k : FloatKind) (o : Option Datum) (h : o = none ∨ ∃ s, o = some (.infinity s)) : ¬ FinW k.format (match o.map k.format.write with | some r => can k r | none => nan k) := by
  rcases h with rfl | ⟨s, rfl⟩
  · exact nan_nf k
  · exact inf_nf k s
theorem prod_nf (d e : Datum) (h : (∃ s, d = .infinity s) ∨ d.isNaN = true) : d.product e = none ∨ ∃ s, d.product e = some (.infinity s) := by
  rcases h with ⟨s, rfl⟩ | h
  · cases e with
    | number t n j =>
      simp only [Datum.product]
      by_cases hn : n = 0
      · rw [if_pos hn]; exact .inl rfl
      · rw [if_neg hn]; exact .inr ⟨_, rfl⟩
    | infinity t => exact .inr ⟨_, rfl⟩
    | nan _ _ => exact .inl rfl
  · cases d <;> simp [Datum.isNaN] at h
    exact .inl (by cases e <;> rfl)
theorem sum_nf (d e : Datum) (h : (∃ s, d = .infinity s) ∨ d.isNaN = true) : d.sum e = none ∨ ∃ s, d.sum e = some (.infinity s) := by
  rcases h with ⟨s, rfl⟩ | h
  · cases e with
    | number t n j => exact .inr ⟨_, rfl⟩
    | infinity t =>
      simp only [Datum.sum]
      by_cases hn : s = t
      · rw [if_pos hn]; exact .inr ⟨_, rfl⟩
      · rw [if_neg hn]; exact .inl rfl
    | nan _ _ => exact .inl rfl
  · cases d <;> simp [Datum.isNaN] at h
    exact .inl (by cases e <;> rfl)
theorem nf_mul (k : FloatKind) {x : Nat} (y : Nat) (h : ¬ FinW k.format x) : ¬ FinW k.format (fop .mul k x y) :=
  out_nf k _ (prod_nf _ (k.format.read y) (nfk k h))
theorem nf_add (k : FloatKind) {x : Nat} (y : Nat) (h : ¬ FinW k.format x) : ¬ FinW k.format (fop .add k x y) :=
  out_nf k _ (sum_nf _ (k.format.read y) (nfk k h))
theorem nf_sub (k : FloatKind) {x : Nat} (y : Nat) (h : ¬ FinW k.format x) : ¬ FinW k.format (fop .sub k x y) :=
  out_nf k _ (sum_nf _ (k.format.read y).opposite (nfk k h))
theorem nf_mul_r (k : FloatKind) (x : Nat) {y : Nat} (h : ¬ FinW k.format y) : ¬ FinW k.format (fop .mul k x y) := by
  have e : ∀ d e : Datum, d.product e = e.product d := by
    intro d e
    cases d <;> cases e <;> simp [Datum.product, Bool.xor_comm, Nat.mul_comm, Int.add_comm]
  have := out_nf k _ (prod_nf _ (k.format.read x) (nfk k h))
  rw [e] at this
  exact this
theorem nf_wide {x : Nat} (h : ¬ FinW single x) : ¬ FinW double (cop .f32 x .f64) := by
  rcases nfk .f32 h with ⟨s, h1⟩ | h1
  · have e : floatToFloatBits .f32 x .f64 = some (FloatKind.f64.encode (.infinity s)) := by
      unfold floatToFloatBits
      rw [if_neg (by decide)]
      show (match single.read x with | .nan _ _ => none | .infinity s => some (FloatKind.f64.encode (.infinity s)) | .number s m e => if (FloatKind.f64.decode (FloatKind.f64.encode (.number s m e))).isInfinity then none else some (FloatKind.f64.encode (.number s m e))) = _
      have h1' : single.read x = .infinity s := h1
      rw [h1']
    unfold cop
    rw [e]
    exact inf_nf .f64 s
  · rw [← cop_can (by decide), can_of_nan h1]
    unfold FinW
    decide +kernel
theorem nf_fits {x : Nat} (h : ¬ FinW double x) : Fits .f64 x .f32 := by
  rcases nfk .f64 h with ⟨s, h1⟩ | h1
  · right
    unfold floatToFloatBits
    rw [if_neg (by decide)]
    show (match double.read x with | .nan _ _ => none | .infinity s => some (FloatKind.f32.encode (.infinity s)) | .number s m e => if (FloatKind.f32.decode (FloatKind.f32.encode (.number s m e))).isInfinity then none else some (FloatKind.f32.encode (.number s m e))).isSome = true
    have h1' : double.read x = .infinity s := h1
    rw [h1']
    rfl
  · exact .inl h1
theorem nf_can {x X : Nat} (h : can .f32 x = X) (hX : ¬ FinW single X) : ¬ FinW single x := fun hx => hX (by rw [← h, can_fin (k := .f32) hx]; exact hx)

/-! ## numbers that are finite -/
theorem pw_le (a b c d : Nat) (h : a + b ≤ c + d) : 2 ^ a * 2 ^ b ≤ 2 ^ c * 2 ^ d := by
  rw [← Nat.pow_add, ← Nat.pow_add]
  exact Nat.pow_le_pow_right (by omega) h
theorem max_le : mv single 2139095039 ≤ 2 ^ 277 := by decide +kernel
theorem V_max {g : Nat} (h : FinW single g) : (V single g).natAbs ≤ 2 ^ 277 := by
  have h' : rg single g ≤ 2139095039 := by have := h; unfold FinW at this; rw [inf32] at this; omega
  unfold V
  rw [sg_abs]
  exact Nat.le_trans (mv_mono single h') max_le
theorem prod_le (a b c d X : Nat) (h : X ≤ 2 ^ b) (hs : a + b ≤ c + d) : 2 ^ a * X ≤ 2 ^ c * 2 ^ d := Nat.le_trans (Nat.mul_le_mul_left _ h) (pw_le a b c d hs)
/-- Half of 1, or its opposite. -/
def Half (s : Nat) : Prop := FinW single s ∧ (V single s).natAbs = 2 ^ 148
theorem half_pos : Half 1056964608 := ⟨by unfold FinW; decide +kernel, by decide +kernel⟩
theorem half_neg : Half 3204448256 := ⟨by unfold FinW; decide +kernel, by decide +kernel⟩
theorem half_fin {s g a : Nat} (hs : Half s) (hg : FinW single g) (ha : can .f32 a = fop .mul .f32 s g) : Bs a 127 := by
  obtain ⟨E, hE⟩ : ∃ E, E = 149 + 127 := ⟨_, rfl⟩
  have hb : (V single s * V single g).natAbs ≤ 2 ^ E * 2 ^ 149 := by
    rw [Int.natAbs_mul, hs.2]
    exact prod_le 148 277 E 149 _ (V_max hg) (by omega)
  obtain ⟨r, hr, hrr, _⟩ := mul_rnd single (hi := ps 127) (D := 149) lp32 hs.1 hg (ps_inf (by omega)) (by rw [mv_ps, ← hE]; exact hb)
  have hB := rnd_bs (e := 127) hrr (by omega) (by rw [← hE]; exact hb)
  have e : fop .mul .f32 s g = r := by
    unfold fop
    rw [show floatBits .mul .f32 s g = some r from hr]
    exact can_fin (k := .f32) hB.1
  rw [e] at ha
  by_cases hn : isNaN .f32 a = true
  · rw [can_of_nan hn] at ha
    exact absurd (by rw [ha]; exact hB.1) (nan_nf .f32)
  · rw [can_of_not (by simpa using hn)] at ha
    rw [ha]; exact hB
theorem bs_r {x e : Nat} (h : Bs x e) : nr (r32 x) 0 (two e) := by
  have h2 := h.2
  have hp := two_pos 149
  have e1 : ((V single x).natAbs : Rat) ≤ two (149 + e) := by unfold two; exact_mod_cast h2
  rw [two_add] at e1
  have e3 : ((V single x : Int) : Rat) ≤ ((V single x).natAbs : Rat) := by
    rw [← Rat.intCast_natCast]; exact Rat.intCast_le_intCast.2 (by omega)
  have e4 : -((V single x).natAbs : Rat) ≤ ((V single x : Int) : Rat) := by
    rw [← Rat.intCast_natCast, ← Rat.intCast_neg]; exact Rat.intCast_le_intCast.2 (by omega)
  unfold nr r32
  generalize ((V single x : Int) : Rat) = v at *
  generalize ((V single x).natAbs : Rat) = n at *
  generalize two 149 = P at *
  generalize two e = E at *
  have hi := Rat.le_of_lt (Rat.inv_pos.2 hp)
  have b1 := Rat.mul_le_mul_of_nonneg_right (show v ≤ P * E by grind) hi
  have b2 := Rat.mul_le_mul_of_nonneg_right (show -v ≤ P * E by grind) hi
  have e5 : P * E * P⁻¹ = E := by grind
  rw [e5] at b1 b2
  rw [Rat.div_def]
  constructor <;> grind
theorem sum_le {P Q : Rat} (hP : 0 ≤ P) (hQ : 0 ≤ Q) (h : P * P + Q * Q ≤ 1001 / 1000) : P + Q ≤ 3 / 2 := by
  have h1 : 0 ≤ (P - Q) * (P - Q) := by
    by_cases hs : 0 ≤ P - Q
    · exact Rat.mul_nonneg hs hs
    · have := Rat.mul_nonneg (show 0 ≤ -(P - Q) by grind) (show 0 ≤ -(P - Q) by grind)
      grind
  by_cases hc : P + Q ≤ 3 / 2
  · exact hc
  · exfalso
    have h2 := Rat.mul_nonneg (show 0 ≤ P + Q - 3 / 2 by grind) (show 0 ≤ P + Q + 3 / 2 by grind)
    grind
theorem cross {T x y P Q : Rat} (hT : 0 ≤ T) (hx : nr x 0 T) (hy : nr y 0 T) (hP : 0 ≤ P) (hQ : 0 ≤ Q) (h : P * P + Q * Q ≤ 1001 / 1000) : nr (x * P + y * Q) 0 (3 / 2 * T) ∧ nr (x * P - y * Q) 0 (3 / 2 * T) := by
  have hs := sum_le hP hQ h
  unfold nr at *
  have a1 := Rat.mul_nonneg (show 0 ≤ T - x by grind) hP
  have a2 := Rat.mul_nonneg (show 0 ≤ T + x by grind) hP
  have a3 := Rat.mul_nonneg (show 0 ≤ T - y by grind) hQ
  have a4 := Rat.mul_nonneg (show 0 ≤ T + y by grind) hQ
  have a5 := Rat.mul_nonneg hT (show 0 ≤ 3 / 2 - (P + Q) by grind)
  refine ⟨⟨?_, ?_⟩, ?_, ?_⟩ <;> grind
theorem cross4 {T x y c d : Rat} (hT : 0 ≤ T) (hx : nr x 0 T) (hy : nr y 0 T) (h : c * c + d * d ≤ 1001 / 1000) : nr (x * c + y * d) 0 (3 / 2 * T) ∧ nr (x * c - y * d) 0 (3 / 2 * T) := by
  by_cases hc : 0 ≤ c
  · by_cases hd : 0 ≤ d
    · exact cross hT hx hy hc hd h
    · have := cross hT hx hy hc (show 0 ≤ -d by grind) (by grind)
      unfold nr at *
      refine ⟨⟨?_, ?_⟩, ?_, ?_⟩ <;> grind
  · by_cases hd : 0 ≤ d
    · have := cross hT hx hy (show 0 ≤ -c by grind) hd (by grind)
      unfold nr at *
      refine ⟨⟨?_, ?_⟩, ?_, ?_⟩ <;> grind
    · have := cross hT hx hy (show 0 ≤ -c by grind) (show 0 ≤ -d by grind) (by grind)
      unfold nr at *
      refine ⟨⟨?_, ?_⟩, ?_, ?_⟩ <;> grind
theorem hi_is : mv single 2136997888 = 7 * 2 ^ 274 := by decide +kernel
theorem seven (a b c : Nat) (h : a + b = c) : 7 * 2 ^ a * 2 ^ b = 7 * 2 ^ c := by rw [Nat.mul_assoc, ← Nat.pow_add, h]
/-- What is at most 7/4 of 2 ^ 127 can be narrowed. -/
theorem fits_r {u : Nat} (h : FinW double u) (hr : nr (r64 u) 0 (7 * two 125)) : Fits .f64 u .f32 := by
  have hp := two_pos D64
  have hV : (V double u).natAbs ≤ 7 * 2 ^ (D64 + 125) := by
    unfold nr r64 at hr
    have h3 := Rat.mul_le_mul_of_nonneg_right (show (V double u : Rat) / two D64 ≤ 7 * two 125 by grind) (Rat.le_of_lt hp)
    have h4 := Rat.mul_le_mul_of_nonneg_right (show -((V double u : Rat) / two D64) ≤ 7 * two 125 by grind) (Rat.le_of_lt hp)
    rw [show (V double u : Rat) / two D64 * two D64 = V double u by grind] at h3
    rw [show -((V double u : Rat) / two D64) * two D64 = -(V double u : Rat) by grind] at h4
    have e : (7 * two 125) * two D64 = (((7 * 2 ^ (D64 + 125) : Nat) : Int) : Rat) := by
      rw [show (((7 * 2 ^ (D64 + 125) : Nat) : Int) : Rat) = 7 * two (D64 + 125) by unfold two; push_cast; rfl, two_add]
      grind
    rw [e] at h3 h4
    rw [← Rat.intCast_neg] at h4
    have i1 := Rat.intCast_le_intCast.1 h3
    have i2 := Rat.intCast_le_intCast.1 h4
    generalize 7 * 2 ^ (D64 + 125) = B at *
    omega
  obtain ⟨r, hr, _⟩ := narrow_rnd (hi := 2136997888) h (by rw [inf32]; decide) (by rw [hi_is, seven 274 925 (D64 + 125) rfl]; exact hV)
  exact .inr (by rw [hr]; rfl)
theorem cop_fin {a e : Nat} (h : Bs a e) (he : e ≤ 1000) : cop .f32 a .f64 = wd a := by
  obtain ⟨h1, h2⟩ := wd_in h he
  unfold cop
  rw [h1]
  exact can_fin (k := .f64) h2.1
theorem fop_fin {op : BinOp} {x y r : Nat} (h : floatBits op .f64 x y = some r) (hr : FinW double r) : fop op .f64 x y = r := by
  unfold fop
  rw [h]
  exact can_fin (k := .f64) hr
theorem two_127 : two 127 = 4 * two 125 := by
  rw [show 127 = 2 + 125 from rfl, two_add]; rfl
theorem two_128 : two 128 = 8 * two 125 := by
  rw [show 128 = 3 + 125 from rfl, two_add]; rfl
theorem two_129 : two (128 + 1) = 16 * two 125 := by
  rw [show 128 + 1 = 4 + 125 from rfl, two_add]; rfl
theorem bound_s {u p q P Q T : Rat} (h1 : nr p P (8 * T / 1125899906842624)) (h2 : nr q Q (8 * T / 1125899906842624)) (h3 : nr u (p - q) (16 * T / 1125899906842624)) (hk : nr (P - Q) 0 (3 / 2 * (4 * T))) (hT : 0 < T) : nr u 0 (7 * T) := by
  unfold nr at *
  constructor <;> grind
theorem bound_a {u p q P Q T : Rat} (h1 : nr p P (8 * T / 1125899906842624)) (h2 : nr q Q (8 * T / 1125899906842624)) (h3 : nr u (p + q) (16 * T / 1125899906842624)) (hk : nr (P + Q) 0 (3 / 2 * (4 * T))) (hT : 0 < T) : nr u 0 (7 * T) := by
  unfold nr at *
  constructor <;> grind
theorem fit_fin {a b c d : Nat} (ha : Bs a 127) (hb : Bs b 127) (hc : Bs c 1) (hd : Bs d 1) (hr : r32 c * r32 c + r32 d * r32 d ≤ 1001 / 1000) : Fits .f64 (mw .sub a b c d) .f32 ∧ Fits .f64 (mw .add a b c d) .f32 := by
  obtain ⟨_, A⟩ := wd_in ha (by omega)
  obtain ⟨_, B⟩ := wd_in hb (by omega)
  obtain ⟨_, C⟩ := wd_in hc (by omega)
  obtain ⟨_, D⟩ := wd_in hd (by omega)
  obtain ⟨e1, b1, n1⟩ := mul64 A C (by omega)
  obtain ⟨e2, b2, n2⟩ := mul64 B D (by omega)
  obtain ⟨e3, b3, n3⟩ := sub64 b1 b2 (by omega)
  obtain ⟨e4, b4, n4⟩ := add64 b1 b2 (by omega)
  have hx := bs_r ha
  have hy := bs_r hb
  have hT := Rat.le_of_lt (two_pos 127)
  obtain ⟨k1, k2⟩ := cross4 hT hx hy hr
  rw [(wd_r ha.1).2, (wd_r hc.1).2] at n1
  rw [(wd_r hb.1).2, (wd_r hd.1).2] at n2
  have h50 : two 50 = 1125899906842624 := rfl
  have hp := two_pos 125
  rw [h50] at n1 n2 n3 n4
  rw [show 127 + 1 = 128 from rfl, two_128] at n1 n2
  rw [two_129] at n3 n4
  rw [two_127] at k1 k2
  unfold mw
  rw [cop_fin ha (by omega), cop_fin hb (by omega), cop_fin hc (by omega), cop_fin hd (by omega), fop_fin e1 b1.1, fop_fin e2 b2.1, fop_fin e3 b3.1, fop_fin e4 b4.1]
  exact ⟨fits_r b3.1 (bound_s n1 n2 n3 k2 hp), fits_r b4.1 (bound_a n1 n2 n4 k1 hp)⟩
/-- What a source sends, times a phase. -/
theorem fit_all {s1 s2 g a b : Nat} {n : Int} (h1 : Half s1) (h2 : Half s2) (ha : can .f32 a = fop .mul .f32 s1 g) (hb : can .f32 b = fop .mul .f32 s2 g) (hn : n.natAbs ≤ 524288) :
    Fits .f64 (mw .sub a b (phz n).1 (phz n).2) .f32 ∧ Fits .f64 (mw .add a b (phz n).2 (phz n).1) .f32 := by
  by_cases hg : FinW single g
  · have A := half_fin h1 hg ha
    have B := half_fin h2 hg hb
    obtain ⟨⟨C, D⟩, _⟩ := ph_r n hn
    have ho := (ph_one n hn).1
    exact ⟨(fit_fin A B C D (by grind)).1, (fit_fin A B D C (by grind)).2⟩
  · have A : ¬ FinW single a := nf_can ha (nf_mul_r .f32 s1 hg)
    have A' := nf_wide A
    exact ⟨nf_fits (nf_sub .f64 _ (nf_mul .f64 _ A')), nf_fits (nf_add .f64 _ (nf_mul .f64 _ A'))⟩

end Go.Proofs.Ytabbfpjngbiohaa.fitsAny
