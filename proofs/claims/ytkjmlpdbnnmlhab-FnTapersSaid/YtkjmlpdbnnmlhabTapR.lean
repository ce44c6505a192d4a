/- Weights of tapers that are steered receive nearly their taper; sums and greatest ones in 64 bits. -/
import Derived.Test.YtkjmlpdbnnmlhabRows
import Derived.Test.YtkjmlpdbnnmlhabSlc
import Derived.Test.YtkjmlpdbnnmlhabSmall
import Derived.Test.YtkjmlpdbnnmlhabOpens
import Derived.Test.YtkjmlpdbnnmlhabFloats
import Derived.Test.YtkjmlpdbnnmlhabRound
import Derived.Test.YtkjmlpdbnnmlhabValues
import Derived.Test.YtkjmlpdbnnmlhabConv
import Derived.Test.YtkjmlpdbnnmlhabFWalk
import Derived.Test.YtkjmlpdbnnmlhabFinWalk
import Derived.Test.YtkjmlpdbnnmlhabRoot
import Derived.Test.YtkjmlpdbnnmlhabFloat2
import Derived.Test.YtkjmlpdbnnmlhabFloat3
import Derived.Test.YtkjmlpdbnnmlhabPhase
import Derived.Test.YtkjmlpdbnnmlhabSine
import Derived.Test.YtkjmlpdbnnmlhabPhasor
import Derived.Test.YtkjmlpdbnnmlhabListC
import Derived.Test.YtkjmlpdbnnmlhabSteerNum
import Derived.Test.YtkjmlpdbnnmlhabSineIn
import Derived.Test.YtkjmlpdbnnmlhabPolyNum
import Derived.Test.YtkjmlpdbnnmlhabPolyW
import Derived.Test.YtkjmlpdbnnmlhabPoly1
import Derived.Test.YtkjmlpdbnnmlhabPoly2
import Derived.Test.YtkjmlpdbnnmlhabGPoly
import Derived.Test.YtkjmlpdbnnmlhabGNum
import Derived.Test.YtkjmlpdbnnmlhabRq
import Derived.Test.YtkjmlpdbnnmlhabPowW
import Derived.Test.YtkjmlpdbnnmlhabTwinNum
import Derived.Test.YtkjmlpdbnnmlhabPhDef
import Derived.Test.YtkjmlpdbnnmlhabPhTabA
import Derived.Test.YtkjmlpdbnnmlhabPhTabB
import Derived.Test.YtkjmlpdbnnmlhabPhTabC
import Derived.Test.YtkjmlpdbnnmlhabPhTabD
import Derived.Test.YtkjmlpdbnnmlhabPhAll
import Derived.Test.YtkjmlpdbnnmlhabPhMath
import Derived.Test.YtkjmlpdbnnmlhabDotC
import Derived.Test.YtkjmlpdbnnmlhabGapAll
import Derived.WalkKit
import Derived.ProofKit
import Derived.OpenShut
import Derived.ShutString
import Derived.ChangeOld
import Derived.Below
import Derived.Lib.Hide
import Derived.BigQuiet
import Derived.Deep.QuietTactic
import Derived.WalkLawsBesides
import Derived.Outline
namespace Go.Proofs.Ytkjmlpdbnnmlhab.tapR
open Go.ChangeShapes Go.WideShapes Go.ChangeAt Go.RowKit
open Go.ChangeMaps (open_string shut_string)
set_option linter.unusedVariables false
open Go Ieee Go.RowKit
open Go.Proofs.Ytkjmlpdbnnmlhab.floats Go.Proofs.Ytkjmlpdbnnmlhab.round Go.Proofs.Ytkjmlpdbnnmlhab.values Go.Proofs.Ytkjmlpdbnnmlhab.conv Go.Proofs.Ytkjmlpdbnnmlhab.fWalk Go.Proofs.Ytkjmlpdbnnmlhab.float2 Go.Proofs.Ytkjmlpdbnnmlhab.float3 Go.Proofs.Ytkjmlpdbnnmlhab.phase Go.Proofs.Ytkjmlpdbnnmlhab.sine Go.Proofs.Ytkjmlpdbnnmlhab.phasor Go.Proofs.Ytkjmlpdbnnmlhab.listC Go.Proofs.Ytkjmlpdbnnmlhab.steerNum Go.Proofs.Ytkjmlpdbnnmlhab.sineIn Go.Proofs.Ytkjmlpdbnnmlhab.polyNum Go.Proofs.Ytkjmlpdbnnmlhab.polyW Go.Proofs.Ytkjmlpdbnnmlhab.poly2 Go.Proofs.Ytkjmlpdbnnmlhab.gPoly Go.Proofs.Ytkjmlpdbnnmlhab.gNum Go.Proofs.Ytkjmlpdbnnmlhab.rq Go.Proofs.Ytkjmlpdbnnmlhab.powW Go.Proofs.Ytkjmlpdbnnmlhab.steerR Go.Proofs.Ytkjmlpdbnnmlhab.dotC Go.Proofs.Ytkjmlpdbnnmlhab.gap Go.Proofs.Ytkjmlpdbnnmlhab.gapR

theorem sw31 : single.signWeight = 2 ^ 31 := by decide +kernel
theorem neg_parts (b : Nat) : rg single (Op.negFloat .f32 b) = rg single b ∧ sgn single (Op.negFloat .f32 b) = !sgn single b := by
  have e : Op.negFloat .f32 b = b ^^^ 2 ^ 31 := rfl
  unfold rg sgn
  rw [e, sw31, Nat.xor_mod_two_pow, Nat.mod_self, Nat.xor_zero]
  refine ⟨rfl, ?_⟩
  have h1 : (b ^^^ 2 ^ 31) / 2 ^ 31 = b / 2 ^ 31 ^^^ 1 := by rw [Nat.xor_div_two_pow]
  have h2 : (b / 2 ^ 31 ^^^ 1) % 2 = (b / 2 ^ 31 % 2) ^^^ 1 := by
    have := Nat.xor_mod_two_pow (a := b / 2 ^ 31) (b := 1) (n := 1)
    simpa using this
  rw [h1, h2]
  have hm : b / 2 ^ 31 % 2 = 0 ∨ b / 2 ^ 31 % 2 = 1 := by omega
  rcases hm with h | h <;> rw [h] <;> try rfl
theorem neg_r {b : Nat} (h : FinW single b) : FinW single (Op.negFloat .f32 b) ∧ V single (Op.negFloat .f32 b) = -V single b ∧ r32 (Op.negFloat .f32 b) = -r32 b := by
  obtain ⟨h1, h2⟩ := neg_parts b
  have hV : V single (Op.negFloat .f32 b) = -V single b := by unfold V; rw [h1, h2, sg_not]
  refine ⟨by unfold values.FinW; rw [h1]; exact h, hV, ?_⟩
  unfold r32
  rw [hV, Rat.intCast_neg, Rat.div_def, Rat.div_def, Rat.neg_mul]
theorem neg_bs {b e : Nat} (h : Bs b e) : Bs (Op.negFloat .f32 b) e := by
  obtain ⟨h1, h2, _⟩ := neg_r h.1
  exact ⟨h1, by rw [h2, Int.natAbs_neg]; exact h.2⟩
theorem cj_cb {x : Nat × Nat} {e : Nat} (h : Cb x e) : Cb (cj x) e ∧ r32 (cj x).1 = r32 x.1 ∧ r32 (cj x).2 = -r32 x.2 := ⟨⟨h.1, neg_bs h.2⟩, rfl, (neg_r h.2.1).2.2⟩
theorem fop_is {op : BinOp} {x y r p : Nat} (h : floatBits op .f32 x y = some r) (hr : FinW single r) (hp : can .f32 p = fop op .f32 x y) : p = r := by
  have hn : isNaN .f32 r = false := fin_not_nan (k := .f32) hr
  unfold fop at hp
  rw [h] at hp
  rcases can_eq_iff.1 hp with h' | ⟨_, h'⟩
  · exact h'
  · rw [hn] at h'; cases h'
theorem nr_mulr {a b e s M : Rat} (h : nr a b e) (hs : nr s 0 M) : nr (a * s) (b * s) (e * M) := by
  unfold nr at *
  have p1 := Rat.mul_nonneg (show 0 ≤ e - (a - b) by grind) (show 0 ≤ M + s by grind)
  have p2 := Rat.mul_nonneg (show 0 ≤ e + (a - b) by grind) (show 0 ≤ M - s by grind)
  have p3 := Rat.mul_nonneg (show 0 ≤ e - (a - b) by grind) (show 0 ≤ M - s by grind)
  have p4 := Rat.mul_nonneg (show 0 ≤ e + (a - b) by grind) (show 0 ≤ M + s by grind)
  constructor <;> grind
theorem div_a {a b : Rat} (h : 0 < a) : a * b / a = b ∧ -(a * b) / a = -b := by constructor <;> grind
theorem r_of_bs {x e : Nat} (h : Bs x e) : nr (r32 x) 0 (two e) := by
  have hp := two_pos 149
  have h1 : V single x ≤ ((2 ^ (149 + e) : Nat) : Int) := by have := h.2; omega
  have h2 : -((2 ^ (149 + e) : Nat) : Int) ≤ V single x := by have := h.2; omega
  have a1 := of_int_le (k := 149) h1
  have a2 := of_int_le (k := 149) h2
  rw [Rat.intCast_neg] at a2
  have e1 : (((2 ^ (149 + e) : Nat) : Int) : Rat) = two 149 * two e := by rw [← two_add]; rfl
  rw [e1] at a1 a2
  rw [(div_a hp).1] at a1
  rw [(div_a hp).2] at a2
  have e2 : r32 x = (V single x : Rat) / two 149 := rfl
  rw [← e2] at a1 a2
  clear e1 e2 h1 h2
  unfold nr
  constructor <;> grind
/-- A steered number of a taper, received from its direction. -/
theorem term_near {N : Int} {t p q : Nat} (hN : N.natAbs ≤ 524288) (ht : Bs t 1) (h0 : 0 ≤ r32 t) (h1 : r32 t ≤ 11 / 10)
    (hp : can .f32 p = fop .mul .f32 (phz N).1 t) (hq : can .f32 q = fop .mul .f32 (phz N).2 t) :
    MulOk (cj (p, q)) (phz N) ∧ Cb (mulw (cj (p, q)) (phz N)) 5 ∧ nr (r32 (mulw (cj (p, q)) (phz N)).1) (r32 t) (1 / 32768) ∧ nr (r32 (mulw (cj (p, q)) (phz N)).2) 0 (1 / 32768) := by
  obtain ⟨hc, _, _⟩ := ph_r N hN
  have hone := ph_one N hN
  obtain ⟨f1, b1, n1⟩ := mul32 hc.1 ht (by omega)
  obtain ⟨f2, b2, n2⟩ := mul32 hc.2 ht (by omega)
  obtain rfl := fop_is f1 b1.1 hp
  obtain rfl := fop_is f2 b2.1 hq
  obtain ⟨cc, c1, c2⟩ := cj_cb (x := (bm32 (phz N).1 t, bm32 (phz N).2 t)) (e := 1 + 1) ⟨b1, b2⟩
  obtain ⟨mo, mc⟩ := mul_ok cc hc (by omega)
  obtain ⟨q1, q2⟩ := mul_near cc hc (by omega)
  rw [c1, c2] at q1 q2
  dsimp only at q1 q2
  rw [show two (1 + 1 + 1 + 1) = 16 from rfl, two_num 20 1048576 rfl] at q1 q2
  rw [show two (1 + 1) = 4 from rfl, two_num 22 4194304 rfl] at n1 n2
  have s1 := r_of_bs hc.1
  have s2 := r_of_bs hc.2
  rw [show two 1 = 2 from rfl] at s1 s2
  refine ⟨mo, mc.mono (by omega), ?_, ?_⟩
  · have m1 := nr_mulr n1 s1
    have m2 := nr_mulr n2 s2
    have m3 := nr_mulr hone (show nr (r32 t) 0 (11 / 10) by unfold nr; constructor <;> grind)
    generalize r32 (bm32 (phz N).1 t) = P at *
    generalize r32 (bm32 (phz N).2 t) = Q at *
    generalize r32 (phz N).1 = X at *
    generalize r32 (phz N).2 = Y at *
    generalize r32 t = T at *
    unfold nr at *
    constructor <;> grind
  · have m1 := nr_mulr n1 s2
    have m2 := nr_mulr n2 s1
    generalize r32 (bm32 (phz N).1 t) = P at *
    generalize r32 (bm32 (phz N).2 t) = Q at *
    generalize r32 (phz N).1 = X at *
    generalize r32 (phz N).2 = Y at *
    generalize r32 t = T at *
    unfold nr at *
    constructor <;> grind

/-! ## 64 bits -/
theorem bd_of_r {x e : Nat} (h : FinW double x) (hn : nr (r64 x) 0 (two e)) : Bd x (D64 + e) := by
  refine ⟨h, ?_⟩
  have hp := two_pos D64
  unfold nr r64 at hn
  have h1 : (V double x : Rat) ≤ two (D64 + e) := by
    have h3 := Rat.mul_le_mul_of_nonneg_right (show (V double x : Rat) / two D64 ≤ two e by grind) (Rat.le_of_lt hp)
    have e1 : (V double x : Rat) / two D64 * two D64 = V double x := by grind
    rw [e1] at h3
    rw [two_add]
    grind
  have h2 : -(V double x : Rat) ≤ two (D64 + e) := by
    have h3 := Rat.mul_le_mul_of_nonneg_right (show -((V double x : Rat) / two D64) ≤ two e by grind) (Rat.le_of_lt hp)
    have e1 : -((V double x : Rat) / two D64) * two D64 = -(V double x : Rat) := by grind
    rw [e1] at h3
    rw [two_add]
    grind
  have i1 : V double x ≤ ((2 ^ (D64 + e) : Nat) : Int) := by
    unfold two at h1
    exact Rat.intCast_le_intCast.1 h1
  have i2 : -V double x ≤ ((2 ^ (D64 + e) : Nat) : Int) := by
    unfold two at h2
    refine Rat.intCast_le_intCast.1 ?_
    rw [Rat.intCast_neg]
    exact h2
  omega
theorem V_to_r {x y : Nat} (h : V double x ≤ V double y) : r64 x ≤ r64 y := of_int_le (k := D64) h
/-- The greater one of two numbers. -/
theorem mx_ge {x y : Nat} (hx : FinW double x) (hy : FinW double y) : FloatKind.f64.format.order x y = some (compare (V double x) (V double y)) ∧ FinW double (mxw (compare (V double x) (V double y)) x y) ∧ r64 x ≤ r64 (mxw (compare (V double x) (V double y)) x y) ∧ r64 y ≤ r64 (mxw (compare (V double x) (V double y)) x y) := by
  refine ⟨ord_of hx hy, ?_⟩
  rcases Int.lt_trichotomy (V double x) (V double y) with h | h | h
  · rw [Int.compare_eq_lt.2 h]
    exact ⟨hy, V_to_r (Int.le_of_lt h), Rat.le_refl⟩
  · have e := V_to_r (Int.le_of_eq h)
    have e' := V_to_r (Int.le_of_eq h.symm)
    rw [h, show compare (V double y) (V double y) = .eq by simp]
    unfold mxw
    dsimp only
    split
    · exact ⟨hy, e, Rat.le_refl⟩
    · exact ⟨hx, Rat.le_refl, e'⟩
  · rw [Int.compare_eq_gt.2 h]
    exact ⟨hx, Rat.le_refl, V_to_r (Int.le_of_lt h)⟩
theorem gt_yes {x y : Nat} (hx : FinW double x) (hy : FinW double y) (h : r64 y < r64 x) : (FloatKind.f64.format.order x y == some .gt) = true := by
  rw [gt_is hx hy ?_]
  · rfl
  · rcases Int.lt_or_le (V double y) (V double x) with h' | h'
    · exact h'
    · have := V_to_r h'
      grind
theorem lt_yes {x y : Nat} (hx : FinW double x) (hy : FinW double y) (h : r64 x < r64 y) : (FloatKind.f64.format.order x y == some .lt) = true := by
  rw [lt_is hx hy ?_]
  · rfl
  · rcases Int.lt_or_le (V double x) (V double y) with h' | h'
    · exact h'
    · have := V_to_r h'
      grind

end Go.Proofs.Ytkjmlpdbnnmlhab.tapR
