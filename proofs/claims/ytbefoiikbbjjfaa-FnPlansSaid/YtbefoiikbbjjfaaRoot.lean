/- Square roots: in whatever world; those of 32-bit numbers can be narrowed. -/
import Derived.Test.YtbefoiikbbjjfaaFloatAll
namespace Go.Proofs.Ytbefoiikbbjjfaa.root
set_option linter.unusedVariables false
open Go Ieee
open Go.Proofs.Ytbefoiikbbjjfaa.floats Go.Proofs.Ytbefoiikbbjjfaa.round Go.Proofs.Ytbefoiikbbjjfaa.values Go.Proofs.Ytbefoiikbbjjfaa.conv

def sqval (w : World) (x : Nat) : Nat :=
  match double.sqrt x with
  | some r => r
  | none => (Question.nanBits .f64 x x).cut (w.tape w.drawn (.nanBits .f64 x x))
def sqcnt (x : Nat) : Nat := if (double.sqrt x).isSome then 0 else 1
def sqop (x : Nat) : Nat :=
  match double.sqrt x with
  | some r => can .f64 r
  | none => nan .f64
theorem run_sqrt {P : Program} (w : World) (x : Nat) : (Extern.MathSqrt.sqrt #[.float .f64 x]).run P w = .ok (.float .f64 (sqval w x)) (w.drewN (sqcnt x)) := by
  unfold sqval sqcnt
  cases h : double.sqrt x with
  | some r =>
    show Sem.run P (match double.sqrt x with | some r => pure (Value.float .f64 r) | none => do pure (Value.float .f64 (← choose (.nanBits .f64 x x)))) w = _
    simp [h, World.drewN]
  | none =>
    show Sem.run P (match double.sqrt x with | some r => pure (Value.float .f64 r) | none => do pure (Value.float .f64 (← choose (.nanBits .f64 x x)))) w = _
    simp [h, World.drewN, Question.forced]
theorem can_sqval (w : World) (x : Nat) : can .f64 (sqval w x) = sqop x := by
  unfold sqval sqop
  cases double.sqrt x with
  | some r => rfl
  | none => simp [can, nanBits_nan]
theorem sqrt_nan {x : Nat} (h : isNaN .f64 x = true) : double.sqrt x = none := by
  have h' : (double.read x).isNaN = true := h
  unfold Format.sqrt
  revert h'; cases double.read x <;> simp [Datum.isNaN, Datum.root]
theorem sqop_can (x : Nat) : sqop (can .f64 x) = sqop x := by
  by_cases h : isNaN .f64 x = true
  · unfold sqop; rw [sqrt_nan h, sqrt_nan (by rw [isNaN_can]; exact h)]
  · rw [can_of_not (by simpa using h)]

theorem root_sq (n : Nat) (t root : Nat) (h : root * root ≤ n) : Datum.rootFrom n t root * Datum.rootFrom n t root ≤ n := by
  induction t generalizing root with
  | zero => exact h
  | succ t ih =>
    unfold Datum.rootFrom
    dsimp only
    split
    · exact ih _ ‹_›
    · exact ih _ h

theorem mag_sq {w n : Nat} (h : w * w ≤ n) (hn : 1 ≤ n) (b : Bool) : (2 * w + b.toNat) * (2 * w + b.toNat) ≤ 9 * n := by
  have hb := Bool.toNat_le b
  have h1 : (2 * w + b.toNat) * (2 * w + b.toNat) ≤ (2 * w + 1) * (2 * w + 1) := Nat.mul_le_mul (by omega) (by omega)
  have h2 : (2 * w + 1) * (2 * w + 1) = 4 * (w * w) + 4 * w + 1 := by
    rw [Nat.add_mul, Nat.mul_add]; rw [show 2 * w * (2 * w) = 4 * (w * w) from by rw [Nat.mul_mul_mul_comm]]; omega
  have h3 : w ≤ w * w := by
    rcases Nat.eq_zero_or_pos w with h0 | h0
    · subst h0; exact Nat.le_refl _
    · exact Nat.le_mul_of_pos_right w h0
  omega

theorem sg_false (n : Nat) : sg false n = (n : Int) := rfl
theorem sq_le {a b : Nat} (h : a * a ≤ b * b) : a ≤ b := Nat.mul_self_le_mul_self_iff.1 h

/-- the word of 2 to the power of 66 -/
def big : Nat := 2 ^ 1140
theorem big64 : mv double 4904419994206470144 = big := by decide +kernel
theorem big32 : mv single 1619001344 * 2 ^ 925 = big := by decide +kernel

theorem root_number {m : Nat} {i' : Nat} (hm : m ≠ 0) (hm53 : m < 2 ^ 53) (hb : m * 2 ^ i' ≤ 2 ^ 1202) :
    ∃ (mag p : Nat), (Datum.number false m (-1074 + i')).root 54 = some (.number false mag (-1074 + p)) ∧ mag * 2 ^ p ≤ big := by
  unfold Datum.root
  dsimp only
  rw [if_neg hm]
  simp only [Bool.false_eq_true, if_false]
  have hl : m.log2 < 53 := (Nat.log2_lt hm).2 hm53
  generalize hM : 2 * 54 - m.log2 + ((-1074 + (i' : Int) - (2 * 54 - m.log2 : Nat)) % 2).toNat = more
  have hmore : more ≤ 109 := by omega
  obtain ⟨h, hh⟩ : ∃ h : Int, -1074 + (i' : Int) - more = 2 * h := by
    refine ⟨(-1074 + (i' : Int) - more) / 2, ?_⟩
    omega
  have hplace : (-1074 + (i' : Int) - more) / 2 - 1 = h - 1 := by omega
  obtain ⟨p, hp⟩ : ∃ p : Nat, h - 1 = -1074 + (p : Int) := ⟨(h + 1073).toNat, by omega⟩
  have hexp : more + 2 * p = i' + 1072 := by omega
  rw [hplace, hp, Nat.shiftLeft_eq]
  refine ⟨_, p, rfl, ?_⟩
  have hn : 1 ≤ m * 2 ^ more := Nat.le_trans (by omega) (Nat.le_mul_of_pos_right m (Nat.two_pow_pos more))
  have hw := root_sq (m * 2 ^ more) ((m * 2 ^ more).log2 / 2 + 1) 0 (by simp)
  have hq := mag_sq hw hn (Datum.rootFrom (m * 2 ^ more) ((m * 2 ^ more).log2 / 2 + 1) 0 * Datum.rootFrom (m * 2 ^ more) ((m * 2 ^ more).log2 / 2 + 1) 0 != m * 2 ^ more)
  generalize 2 * Datum.rootFrom (m * 2 ^ more) ((m * 2 ^ more).log2 / 2 + 1) 0 + (Datum.rootFrom (m * 2 ^ more) ((m * 2 ^ more).log2 / 2 + 1) 0 * Datum.rootFrom (m * 2 ^ more) ((m * 2 ^ more).log2 / 2 + 1) 0 != m * 2 ^ more).toNat = mag at hq ⊢
  refine sq_le ?_
  calc mag * 2 ^ p * (mag * 2 ^ p) = mag * mag * (2 ^ p * 2 ^ p) := Nat.mul_mul_mul_comm _ _ _ _
    _ ≤ 9 * (m * 2 ^ more) * (2 ^ p * 2 ^ p) := Nat.mul_le_mul_right _ hq
    _ = 9 * (m * (2 ^ more * (2 ^ p * 2 ^ p))) := by rw [Nat.mul_assoc, Nat.mul_assoc]
    _ = 9 * (m * 2 ^ (i' + 1072)) := by rw [← Nat.pow_add, ← Nat.pow_add, show more + (p + p) = i' + 1072 from by omega]
    _ = 9 * (m * 2 ^ i' * 2 ^ 1072) := by rw [Nat.pow_add, Nat.mul_assoc]
    _ ≤ 9 * (2 ^ 1202 * 2 ^ 1072) := Nat.mul_le_mul_left _ (Nat.mul_le_mul_right _ hb)
    _ ≤ big * big := by decide +kernel

theorem fin_mag {x m e : Nat} (h : FinW double x) (hr : double.read x = .number (sgn double x) m (double.leastPlace + e)) : m < 2 ^ 53 := by
  unfold FinW rg at h
  unfold Format.read at hr
  dsimp only at hr
  by_cases h1 : x % double.signWeight < double.binade
  · rw [if_pos h1] at hr
    rw [bi64] at h1
    injection hr with _ e2 _
    omega
  · rw [if_neg h1, if_pos h] at hr
    injection hr with _ e2 _
    have := Nat.mod_lt (x % double.signWeight) (show 0 < double.binade from Nat.two_pow_pos _)
    rw [bi64] at this e2
    omega

/-- THE ROOT of what is not too great can be narrowed. -/
theorem root_fits {x : Nat} (w : World) (h : FinW double x → (V double x).natAbs ≤ 2 ^ 1202) : Fits .f64 (sqval w x) .f32 := by
  rcases kinds64 x with hx | ⟨s, hx, _⟩ | hx
  · obtain ⟨m, e, ex, vx⟩ := read_fin double hx
    have hb := h hx
    rw [V_read vx, sg_abs] at hb
    have hm53 := fin_mag hx ex
    by_cases hm : m = 0
    · subst hm
      have e1 : double.sqrt x = some (double.word (sgn double x) 0) := by
        unfold Format.sqrt; rw [ex]; simp only [Datum.root, if_true, Option.map_some]
        show some (double.nearest _ _ _) = _; rw [nearest_zero]
      have e2 : sqval w x = double.word (sgn double x) 0 := by unfold sqval; rw [e1]
      rw [e2]
      right
      cases sgn double x <;> decide +kernel
    · cases hs : sgn double x with
      | true =>
        have e1 : double.sqrt x = none := by
          unfold Format.sqrt; rw [ex, hs]; simp [Datum.root, hm]
        left
        unfold sqval; rw [e1]; exact nanBits_nan _ _ _ _
      | false =>
        rw [lp64, hs] at ex
        obtain ⟨mag, p, er, hmag⟩ := root_number hm hm53 hb
        have e1 : double.sqrt x = some (double.nearest false mag (-1074 + p)) := by
          unfold Format.sqrt; rw [ex, show double.fractionBits + 2 = 54 from rfl, er]; rfl
        have e2 : sqval w x = double.nearest false mag (-1074 + p) := by unfold sqval; rw [e1]
        have hh := (nearest_rnd double false mag (-1074 + p) (p := p) (d := 0) (by rw [lp64]; omega) (hi := 4904419994206470144) (by rw [inf64]; decide) (by rw [big64, Nat.pow_zero, Nat.mul_one]; exact hmag)).1
        rw [← e2] at hh
        have f1 : FinW double 4904419994206470144 := by unfold FinW rg; rw [sw64, inf64]; decide
        have v1 : V double 4904419994206470144 = (big : Int) := by decide +kernel
        have f0 : FinW double 0 := by unfold FinW rg; rw [sw64, inf64]; decide
        have v0 : V double 0 = 0 := by decide +kernel
        have hmag' : (((mag * 2 ^ p : Nat)) : Int) ≤ (big : Int) := by exact_mod_cast hmag
        have l1 := hh.le _ f1 (by rw [v1, sg_false, Int.pow_zero, Int.mul_one]; exact hmag')
        have l0 := hh.ge _ f0 (by rw [v0, sg_false, Int.pow_zero, Int.mul_one]; exact Int.natCast_nonneg _)
        rw [v1] at l1
        rw [v0] at l0
        obtain ⟨r, hr, _⟩ := narrow_rnd hh.fin (hi := 1619001344) (by rw [inf32]; decide) (by
          rw [big32]
          have : ((V double (sqval w x)).natAbs : Int) ≤ (big : Int) := by
            rw [Int.natAbs_of_nonneg l0]; exact_mod_cast l1
          exact_mod_cast this)
        right; rw [hr]; rfl
  · cases s with
    | true =>
      left
      have e1 : double.sqrt x = none := by unfold Format.sqrt; rw [hx]; rfl
      unfold sqval; rw [e1]; exact nanBits_nan _ _ _ _
    | false =>
      have e1 : double.sqrt x = some (FloatKind.f64.encode (.infinity false)) := by unfold Format.sqrt; rw [hx]; rfl
      have e2 : sqval w x = FloatKind.f64.encode (.infinity false) := by unfold sqval; rw [e1]
      rw [e2]; right; decide +kernel
  · left
    unfold sqval; rw [sqrt_nan hx]; exact nanBits_nan _ _ _ _

end Go.Proofs.Ytbefoiikbbjjfaa.root
