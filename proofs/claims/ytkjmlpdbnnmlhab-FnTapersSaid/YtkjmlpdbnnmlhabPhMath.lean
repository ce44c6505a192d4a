/- Points of the circle at 4096ths of turns: the point of a sum is nearly the product of the points. -/
import Derived.Test.YtkjmlpdbnnmlhabSlc
import Derived.Test.YtkjmlpdbnnmlhabSmall
import Derived.Test.YtkjmlpdbnnmlhabOpens
import Derived.Test.YtkjmlpdbnnmlhabFloats
import Derived.Test.YtkjmlpdbnnmlhabRound
import Derived.Test.YtkjmlpdbnnmlhabValues
import Derived.Test.YtkjmlpdbnnmlhabConv
import Derived.Test.YtkjmlpdbnnmlhabFWalk
import Derived.Test.YtkjmlpdbnnmlhabFinWalk
import Derived.Test.YtkjmlpdbnnmlhabFloat2
import Derived.Test.YtkjmlpdbnnmlhabFloat3
import Derived.Test.YtkjmlpdbnnmlhabPhase
import Derived.Test.YtkjmlpdbnnmlhabSine
import Derived.Test.YtkjmlpdbnnmlhabPhasor
import Derived.Test.YtkjmlpdbnnmlhabListC
import Derived.Test.YtkjmlpdbnnmlhabSteerNum
import Derived.Test.YtkjmlpdbnnmlhabPhDef
import Derived.Test.YtkjmlpdbnnmlhabGPoly
namespace Go.Proofs.Ytkjmlpdbnnmlhab.phMath
set_option linter.unusedVariables false
open Go.Proofs.Ytkjmlpdbnnmlhab.phDef Go.Proofs.Ytkjmlpdbnnmlhab.gPoly

/-- The point for so many steps, in parts of 2^34. -/
def phC (j : Nat) : G :=
  if j / 1024 % 4 = 0 then ((tj (1024 - j % 1024) : Int), (tj (j % 1024) : Int)) else if j / 1024 % 4 = 1 then (-(tj (j % 1024) : Int), (tj (1024 - j % 1024) : Int))
  else if j / 1024 % 4 = 2 then (-(tj (1024 - j % 1024) : Int), -(tj (j % 1024) : Int)) else ((tj (j % 1024) : Int), -(tj (1024 - j % 1024) : Int))
def phi (n : Int) : G := phC (n % 4096).toNat
def sc (m : Int) (x : G) : G := (m * x.1, m * x.2)
def MM : Int := 2 ^ 34
def ee : Int := 25000000000000
def nrm (x : G) : Int := x.1 * x.1 + x.2 * x.2
def err (h j : Nat) : G := gs (sc MM (phC ((j + h) % 4096))) (gm (phC j) (phC h))
theorem err1 : ∀ a < 64, ∀ b < 64, nrm (err 1 (64 * a + b)) ≤ ee * ee := by decide +kernel
theorem err64 : ∀ a < 64, ∀ b < 64, nrm (err 64 (64 * a + b)) ≤ ee * ee := by decide +kernel
theorem nrms : ∀ a < 64, ∀ b < 64, nrm (phC (64 * a + b)) ≤ (MM + 1024) * (MM + 1024) ∧ (MM - 1024) * (MM - 1024) ≤ nrm (phC (64 * a + b)) := by decide +kernel
theorem phC_zero : phC 0 = (MM, 0) := by decide +kernel

def nb (x : G) (r : Int) : Prop := nrm x ≤ r * r
theorem sqn (a : Int) : 0 ≤ a * a := by
  have e : a * a = ((a.natAbs * a.natAbs : Nat) : Int) := by simp
  omega
theorem nrm_nn (x : G) : 0 ≤ nrm x := by have := sqn x.1; have := sqn x.2; unfold nrm; omega
theorem sq_le {a b : Int} (h : a * a ≤ b * b) (hb : 0 ≤ b) : a ≤ b := by
  rcases Int.lt_or_le b a with hlt | hle
  · have h1 : b * b ≤ b * a := Int.mul_le_mul_of_nonneg_left (Int.le_of_lt hlt) hb
    have h2 : b * a < a * a := Int.mul_lt_mul_of_pos_right hlt (by omega)
    omega
  · exact hle
theorem le_sq {a b : Int} (h : a ≤ b) (ha : 0 ≤ a) : a * a ≤ b * b := Int.mul_le_mul h h ha (by omega)
theorem nb_mul {x y : G} {r s : Int} (hx : nb x r) (hy : nb y s) : nb (gm x y) (r * s) := by
  have e : nrm (gm x y) = nrm x * nrm y := by unfold nrm gm; dsimp only; grind
  unfold nb
  rw [e]
  have := Int.mul_le_mul hx hy (nrm_nn y) (sqn r)
  have e2 : r * r * (s * s) = r * s * (r * s) := by grind
  omega
theorem nb_add {x y : G} {r s : Int} (hx : nb x r) (hy : nb y s) (hr : 0 ≤ r) (hs : 0 ≤ s) : nb (ga x y) (r + s) := by
  have hm := Int.mul_le_mul hx hy (nrm_nn y) (sqn r)
  have e1 : nrm x * nrm y = (x.1 * y.1 + x.2 * y.2) * (x.1 * y.1 + x.2 * y.2) + (x.1 * y.2 - x.2 * y.1) * (x.1 * y.2 - x.2 * y.1) := by unfold nrm; grind
  have h0 := sqn (x.1 * y.2 - x.2 * y.1)
  have e2 : r * r * (s * s) = r * s * (r * s) := by grind
  have hd : x.1 * y.1 + x.2 * y.2 ≤ r * s := sq_le (by omega) (Int.mul_nonneg hr hs)
  have e3 : nrm (ga x y) = nrm x + nrm y + 2 * (x.1 * y.1 + x.2 * y.2) := by unfold nrm ga; dsimp only; grind
  have e4 : (r + s) * (r + s) = r * r + s * s + 2 * (r * s) := by grind
  unfold nb at *
  rw [e3, e4]
  omega
theorem nb_sc {x : G} {r m : Int} (hx : nb x r) : nb (sc m x) (m * r) := by
  have e : nrm (sc m x) = m * m * nrm x := by unfold nrm sc; dsimp only; grind
  have e2 : m * r * (m * r) = m * m * (r * r) := by grind
  unfold nb
  rw [e, e2]
  exact Int.mul_le_mul_of_nonneg_left hx (sqn m)
theorem nb_unsc {x : G} {r m : Int} (hm : 0 < m) (hx : nb (sc m x) (m * r)) : nb x r := by
  have e : nrm (sc m x) = m * m * nrm x := by unfold nrm sc; dsimp only; grind
  have e2 : m * r * (m * r) = m * m * (r * r) := by grind
  unfold nb at *
  rw [e, e2] at hx
  exact Int.le_of_mul_le_mul_left hx (Int.mul_pos hm hm)
theorem nb_mono {x : G} {r s : Int} (hx : nb x r) (h : r ≤ s) (hr : 0 ≤ r) : nb x s := Int.le_trans hx (le_sq h hr)
theorem nb_neg {x : G} {r : Int} (hx : nb x r) : nb (-x.1, -x.2) r := by
  have e : nrm (-x.1, -x.2) = nrm x := by unfold nrm; dsimp only; grind
  unfold nb; rw [e]; exact hx
theorem nb_zero : nb (0, 0) 0 := by unfold nb nrm; decide
theorem nb_parts {x : G} {r : Int} (hx : nb x r) (hr : 0 ≤ r) : x.1.natAbs ≤ r.natAbs ∧ x.2.natAbs ≤ r.natAbs := by
  unfold nb nrm at hx
  have h1 := sqn x.1
  have h2 := sqn x.2
  have a1 := sq_le (a := x.1) (b := r) (by omega) hr
  have a2 := sq_le (a := x.2) (b := r) (by omega) hr
  have a3 := sq_le (a := -x.1) (b := r) (by rw [Int.neg_mul_neg]; omega) hr
  have a4 := sq_le (a := -x.2) (b := r) (by rw [Int.neg_mul_neg]; omega) hr
  omega

theorem phi_nb (n : Int) : nb (phi n) (MM + 1024) ∧ (MM - 1024) * (MM - 1024) ≤ nrm (phi n) := by
  have h := nrms ((n % 4096).toNat / 64) (by omega) ((n % 4096).toNat % 64) (by omega)
  rw [show 64 * ((n % 4096).toNat / 64) + (n % 4096).toNat % 64 = (n % 4096).toNat by omega] at h
  exact h
theorem phi_per {a b : Int} (h : a % 4096 = b % 4096) : phi a = phi b := by unfold phi; rw [h]
/-- What a sum's point is more than the product. -/
def dd (a b : Int) : G := gs (sc MM (phi (a + b))) (gm (phi a) (phi b))
theorem dd_small (n : Int) (h : Nat) (hh : h = 1 ∨ h = 64) : nb (dd n h) ee := by
  have e : dd n h = err h (n % 4096).toNat := by
    unfold dd err phi
    rw [show ((n + (h : Int)) % 4096).toNat = ((n % 4096).toNat + h) % 4096 by omega, show ((h : Int) % 4096).toNat = h by omega]
  unfold nb
  rw [e]
  rcases hh with rfl | rfl
  · have := err1 ((n % 4096).toNat / 64) (by omega) ((n % 4096).toNat % 64) (by omega)
    rwa [show 64 * ((n % 4096).toNat / 64) + (n % 4096).toNat % 64 = (n % 4096).toNat by omega] at this
  · have := err64 ((n % 4096).toNat / 64) (by omega) ((n % 4096).toNat % 64) (by omega)
    rwa [show 64 * ((n % 4096).toNat / 64) + (n % 4096).toNat % 64 = (n % 4096).toNat by omega] at this
theorem dd_id (m : Int) (p q r s t u : G) : sc m (gs (sc m r) (gm p s)) = ga (ga (sc m (gs (sc m r) (gm q t))) (gm t (gs (sc m q) (gm p u)))) (-(gm p (gs (sc m s) (gm u t))).1, -(gm p (gs (sc m s) (gm u t))).2) := by
  unfold sc gs ga gm
  ext <;> dsimp only <;> grind
theorem dd_step (a b : Int) (h : Nat) (hh : h = 1 ∨ h = 64) (k : Nat) (hk : k ≤ 200) (hd : nb (dd a b) (3 * k * ee)) : nb (dd a (b + h)) (3 * (k + 1 : Nat) * ee) := by
  have e1 := dd_small (a + b) h hh
  have e2 := dd_small b h hh
  have hz := (phi_nb h).1
  have ha := (phi_nb a).1
  have hid := dd_id MM (phi a) (phi (a + b)) (phi (a + b + h)) (phi (b + h)) (phi h) (phi b)
  have hM : MM = 17179869184 := rfl
  have he : ee = 25000000000000 := rfl
  have key : nb (sc MM (dd a (b + h))) (MM * (3 * (k + 1 : Nat) * ee)) := by
    unfold dd
    rw [← Int.add_assoc, hid]
    refine nb_mono (nb_add (nb_add (nb_sc (m := MM) e1) (nb_mul hz hd) ?_ ?_) (nb_neg (nb_mul ha e2)) ?_ ?_) ?_ ?_
    all_goals
      rw [hM, he]
      omega
  exact nb_unsc (by rw [hM]; omega) key
theorem dd_zero (a : Int) : nb (dd a 0) (3 * (0 : Nat) * ee) := by
  have e : dd a 0 = (0, 0) := by
    unfold dd
    rw [Int.add_zero, show phi 0 = (MM, 0) from phC_zero]
    unfold sc gs gm
    ext <;> dsimp only <;> grind
  rw [e, Int.mul_assoc]
  simpa using nb_zero
theorem dd_big (a : Int) : ∀ k : Nat, k ≤ 64 → nb (dd a ((64 * k : Nat) : Int)) (3 * k * ee)
  | 0, _ => dd_zero a
  | k + 1, hk => by
    have := dd_step a ((64 * k : Nat) : Int) 64 (.inr rfl) k (by omega) (dd_big a k (by omega))
    rwa [show ((64 * k : Nat) : Int) + (64 : Nat) = ((64 * (k + 1) : Nat) : Int) by omega] at this
theorem dd_fine (a : Int) (k : Nat) (hk : k ≤ 64) : ∀ j : Nat, j ≤ 64 → nb (dd a ((64 * k + j : Nat) : Int)) (3 * (k + j : Nat) * ee)
  | 0, _ => dd_big a k hk
  | j + 1, hj => by
    have := dd_step a ((64 * k + j : Nat) : Int) 1 (.inl rfl) (k + j) (by omega) (dd_fine a k hk j (by omega))
    rwa [show ((64 * k + j : Nat) : Int) + (1 : Nat) = ((64 * k + (j + 1) : Nat) : Int) by omega] at this
/-- The point of a sum is nearly the product. -/
theorem phi_add (a b : Int) : nb (dd a b) 9600000000000000 := by
  have e : dd a b = dd a (b % 4096) := by
    unfold dd
    rw [phi_per (a := a + b) (b := a + b % 4096) (by omega), phi_per (a := b) (b := b % 4096) (by omega)]
  rw [e]
  have h := dd_fine a ((b % 4096).toNat / 64) (by omega) ((b % 4096).toNat % 64) (by omega)
  rw [show ((64 * ((b % 4096).toNat / 64) + (b % 4096).toNat % 64 : Nat) : Int) = b % 4096 by omega] at h
  refine nb_mono h ?_ ?_
  all_goals
    rw [show ee = 25000000000000 from rfl]
    omega

end Go.Proofs.Ytkjmlpdbnnmlhab.phMath
