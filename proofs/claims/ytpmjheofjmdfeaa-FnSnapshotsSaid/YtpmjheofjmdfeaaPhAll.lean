/- The table of sines: words and values. -/
/- Points of the circle at 4096ths of turns: the point of a sum is nearly the product of the points. -/
/- Phases of a wave are the points of the table. -/
/- Phases of a wave as fractions: their length is nearly 1, that of a sum is nearly the product, and quarters are exact. -/
import Derived.Test.YtpmjheofjmdfeaaSlc
import Derived.Test.YtpmjheofjmdfeaaSmall
import Derived.Test.YtpmjheofjmdfeaaOpens
import Derived.Test.YtpmjheofjmdfeaaFloatAll
import Derived.Test.YtpmjheofjmdfeaaFWalk
import Derived.Test.YtpmjheofjmdfeaaFinWalk
import Derived.Test.YtpmjheofjmdfeaaFlAll
import Derived.Test.YtpmjheofjmdfeaaPhasor
import Derived.Test.YtpmjheofjmdfeaaListC
import Derived.Test.YtpmjheofjmdfeaaSteerNum
import Derived.Test.YtpmjheofjmdfeaaPhDef
import Derived.Test.YtpmjheofjmdfeaaPhTabA
import Derived.Test.YtpmjheofjmdfeaaPhTabB
import Derived.Test.YtpmjheofjmdfeaaPhTabC
import Derived.Test.YtpmjheofjmdfeaaPhTabD
import Derived.Test.YtpmjheofjmdfeaaGAll
import Derived.Test.YtpmjheofjmdfeaaRows
import Derived.Test.YtpmjheofjmdfeaaTwinNum
import Derived.Test.YtpmjheofjmdfeaaRoot
import Derived.Test.YtpmjheofjmdfeaaSineIn
import Derived.Test.YtpmjheofjmdfeaaPolyAll
import Derived.WalkKit
import Derived.ProofKit
import Derived.OpenShut
import Derived.ShutString
import Derived.ChangeOld
import Derived.Below
import Derived.Lib.Hide
import Derived.BigQuiet
import Derived.Deep.QuietTactic
import Derived.WalkLawsBesides
import Derived.Outline
namespace Go.Proofs.Ytpmjheofjmdfeaa.phVal
set_option linter.unusedVariables false
open Go Ieee
open Go.Proofs.Ytpmjheofjmdfeaa.floats Go.Proofs.Ytpmjheofjmdfeaa.round Go.Proofs.Ytpmjheofjmdfeaa.values Go.Proofs.Ytpmjheofjmdfeaa.conv Go.Proofs.Ytpmjheofjmdfeaa.float2 Go.Proofs.Ytpmjheofjmdfeaa.float3 Go.Proofs.Ytpmjheofjmdfeaa.phase Go.Proofs.Ytpmjheofjmdfeaa.phasor Go.Proofs.Ytpmjheofjmdfeaa.steerNum Go.Proofs.Ytpmjheofjmdfeaa.phDef

theorem tab (j : Nat) (h : j < 1025) : sn (sx (j : Int)) = wj j := by
  by_cases h1 : j < 257
  · exact phTabA.tab j h1
  · by_cases h2 : j < 513
    · have := phTabB.tab (j - 257) (by omega)
      rwa [show j - 257 + 257 = j by omega] at this
    · by_cases h3 : j < 769
      · have := phTabC.tab (j - 513) (by omega)
        rwa [show j - 513 + 513 = j by omega] at this
      · have := phTabD.tab (j - 769) (by omega)
        rwa [show j - 769 + 769 = j by omega] at this
theorem vals : ∀ j < 1025, V single (nw (wj j)) = (tj j : Int) * 2 ^ 115 ∧ V single (nw (bv .sub 0 (wj j))) = -(tj j : Int) * 2 ^ 115 := by decide +kernel

end Go.Proofs.Ytpmjheofjmdfeaa.phVal

namespace Go.Proofs.Ytpmjheofjmdfeaa.phMath
set_option linter.unusedVariables false
open Go.Proofs.Ytpmjheofjmdfeaa.phDef Go.Proofs.Ytpmjheofjmdfeaa.gPoly

/-- The point for so many steps, in parts of 2^34. -/
def phC (j : Nat) : G :=
  if j / 1024 % 4 = 0 then ((tj (1024 - j % 1024) : Int), (tj (j % 1024) : Int)) else if j / 1024 % 4 = 1 then (-(tj (j % 1024) : Int), (tj (1024 - j % 1024) : Int))
  else if j / 1024 % 4 = 2 then (-(tj (1024 - j % 1024) : Int), -(tj (j % 1024) : Int)) else ((tj (j % 1024) : Int), -(tj (1024 - j % 1024) : Int))
def phi (n : Int) : G := phC (n % 4096).toNat
def sc (m : Int) (x : G) : G := (m * x.1, m * x.2)
def MM : Int := 2 ^ 34
def ee : Int := 25000000000000
def nrm (x : G) : Int := x.1 * x.1 + x.2 * x.2
def err (h j : Nat) : G := gs (sc MM (phC ((j + h) % 4096))) (gm (phC j) (phC h))
theorem err1 : ∀ a < 64, ∀ b < 64, nrm (err 1 (64 * a + b)) ≤ ee * ee := by decide +kernel
theorem err64 : ∀ a < 64, ∀ b < 64, nrm (err 64 (64 * a + b)) ≤ ee * ee := by decide +kernel
theorem nrms : ∀ a < 64, ∀ b < 64, nrm (phC (64 * a + b)) ≤ (MM + 1024) * (MM + 1024) ∧ (MM - 1024) * (MM - 1024) ≤ nrm (phC (64 * a + b)) := by decide +kernel
theorem phC_zero : phC 0 = (MM, 0) := by decide +kernel

def nb (x : G) (r : Int) : Prop := nrm x ≤ r * r
theorem sqn (a : Int) : 0 ≤ a * a := by
  have e : a * a = ((a.natAbs * a.natAbs : Nat) : Int) := by simp
  omega
theorem nrm_nn (x : G) : 0 ≤ nrm x := by have := sqn x.1; have := sqn x.2; unfold nrm; omega
theorem sq_le {a b : Int} (h : a * a ≤ b * b) (hb : 0 ≤ b) : a ≤ b := by
  rcases Int.lt_or_le b a with hlt | hle
  · have h1 : b * b ≤ b * a := Int.mul_le_mul_of_nonneg_left (Int.le_of_lt hlt) hb
    have h2 : b * a < a * a := Int.mul_lt_mul_of_pos_right hlt (by omega)
    omega
  · exact hle
theorem le_sq {a b : Int} (h : a ≤ b) (ha : 0 ≤ a) : a * a ≤ b * b := Int.mul_le_mul h h ha (by omega)
theorem nb_mul {x y : G} {r s : Int} (hx : nb x r) (hy : nb y s) : nb (gm x y) (r * s) := by
  have e : nrm (gm x y) = nrm x * nrm y := by unfold nrm gm; dsimp only; grind
  unfold nb
  rw [e]
  have := Int.mul_le_mul hx hy (nrm_nn y) (sqn r)
  have e2 : r * r * (s * s) = r * s * (r * s) := by grind
  omega
theorem nb_add {x y : G} {r s : Int} (hx : nb x r) (hy : nb y s) (hr : 0 ≤ r) (hs : 0 ≤ s) : nb (ga x y) (r + s) := by
  have hm := Int.mul_le_mul hx hy (nrm_nn y) (sqn r)
  have e1 : nrm x * nrm y = (x.1 * y.1 + x.2 * y.2) * (x.1 * y.1 + x.2 * y.2) + (x.1 * y.2 - x.2 * y.1) * (x.1 * y.2 - x.2 * y.1) := by unfold nrm; grind
  have h0 := sqn (x.1 * y.2 - x.2 * y.1)
  have e2 : r * r * (s * s) = r * s * (r * s) := by grind
  have hd : x.1 * y.1 + x.2 * y.2 ≤ r * s := sq_le (by omega) (Int.mul_nonneg hr hs)
  have e3 : nrm (ga x y) = nrm x + nrm y + 2 * (x.1 * y.1 + x.2 * y.2) := by unfold nrm ga; dsimp only; grind
  have e4 : (r + s) * (r + s) = r * r + s * s + 2 * (r * s) := by grind
  unfold nb at *
  rw [e3, e4]
  omega
theorem nb_sc {x : G} {r m : Int} (hx : nb x r) : nb (sc m x) (m * r) := by
  have e : nrm (sc m x) = m * m * nrm x := by unfold nrm sc; dsimp only; grind
  have e2 : m * r * (m * r) = m * m * (r * r) := by grind
  unfold nb
  rw [e, e2]
  exact Int.mul_le_mul_of_nonneg_left hx (sqn m)
theorem nb_unsc {x : G} {r m : Int} (hm : 0 < m) (hx : nb (sc m x) (m * r)) : nb x r := by
  have e : nrm (sc m x) = m * m * nrm x := by unfold nrm sc; dsimp only; grind
  have e2 : m * r * (m * r) = m * m * (r * r) := by grind
  unfold nb at *
  rw [e, e2] at hx
  exact Int.le_of_mul_le_mul_left hx (Int.mul_pos hm hm)
theorem nb_mono {x : G} {r s : Int} (hx : nb x r) (h : r ≤ s) (hr : 0 ≤ r) : nb x s := Int.le_trans hx (le_sq h hr)
theorem nb_neg {x : G} {r : Int} (hx : nb x r) : nb (-x.1, -x.2) r := by
  have e : nrm (-x.1, -x.2) = nrm x := by unfold nrm; dsimp only; grind
  unfold nb; rw [e]; exact hx
theorem nb_zero : nb (0, 0) 0 := by unfold nb nrm; decide
theorem nb_parts {x : G} {r : Int} (hx : nb x r) (hr : 0 ≤ r) : x.1.natAbs ≤ r.natAbs ∧ x.2.natAbs ≤ r.natAbs := by
  unfold nb nrm at hx
  have h1 := sqn x.1
  have h2 := sqn x.2
  have a1 := sq_le (a := x.1) (b := r) (by omega) hr
  have a2 := sq_le (a := x.2) (b := r) (by omega) hr
  have a3 := sq_le (a := -x.1) (b := r) (by rw [Int.neg_mul_neg]; omega) hr
  have a4 := sq_le (a := -x.2) (b := r) (by rw [Int.neg_mul_neg]; omega) hr
  omega

theorem phi_nb (n : Int) : nb (phi n) (MM + 1024) ∧ (MM - 1024) * (MM - 1024) ≤ nrm (phi n) := by
  have h := nrms ((n % 4096).toNat / 64) (by omega) ((n % 4096).toNat % 64) (by omega)
  rw [show 64 * ((n % 4096).toNat / 64) + (n % 4096).toNat % 64 = (n % 4096).toNat by omega] at h
  exact h
theorem phi_per {a b : Int} (h : a % 4096 = b % 4096) : phi a = phi b := by unfold phi; rw [h]
/-- What a sum's point is more than the product. -/
def dd (a b : Int) : G := gs (sc MM (phi (a + b))) (gm (phi a) (phi b))
theorem dd_small (n : Int) (h : Nat) (hh : h = 1 ∨ h = 64) : nb (dd n h) ee := by
  have e : dd n h = err h (n % 4096).toNat := by
    unfold dd err phi
    rw [show ((n + (h : Int)) % 4096).toNat = ((n % 4096).toNat + h) % 4096 by omega, show ((h : Int) % 4096).toNat = h by omega]
  unfold nb
  rw [e]
  rcases hh with rfl | rfl
  · have := err1 ((n % 4096).toNat / 64) (by omega) ((n % 4096).toNat % 64) (by omega)
    rwa [show 64 * ((n % 4096).toNat / 64) + (n % 4096).toNat % 64 = (n % 4096).toNat by omega] at this
  · have := err64 ((n % 4096).toNat / 64) (by omega) ((n % 4096).toNat % 64) (by omega)
    rwa [show 64 * ((n % 4096).toNat / 64) + (n % 4096).toNat % 64 = (n % 4096).toNat by omega] at this
theorem dd_id (m : Int) (p q r s t u : G) : sc m (gs (sc m r) (gm p s)) = ga (ga (sc m (gs (sc m r) (gm q t))) (gm t (gs (sc m q) (gm p u)))) (-(gm p (gs (sc m s) (gm u t))).1, -(gm p (gs (sc m s) (gm u t))).2) := by
  unfold sc gs ga gm
  ext <;> dsimp only <;> grind
theorem dd_step (a b : Int) (h : Nat) (hh : h = 1 ∨ h = 64) (k : Nat) (hk : k ≤ 200) (hd : nb (dd a b) (3 * k * ee)) : nb (dd a (b + h)) (3 * (k + 1 : Nat) * ee) := by
  have e1 := dd_small (a + b) h hh
  have e2 := dd_small b h hh
  have hz := (phi_nb h).1
  have ha := (phi_nb a).1
  have hid := dd_id MM (phi a) (phi (a + b)) (phi (a + b + h)) (phi (b + h)) (phi h) (phi b)
  have hM : MM = 17179869184 := rfl
  have he : ee = 25000000000000 := rfl
  have key : nb (sc MM (dd a (b + h))) (MM * (3 * (k + 1 : Nat) * ee)) := by
    unfold dd
    rw [← Int.add_assoc, hid]
    refine nb_mono (nb_add (nb_add (nb_sc (m := MM) e1) (nb_mul hz hd) ?_ ?_) (nb_neg (nb_mul ha e2)) ?_ ?_) ?_ ?_
    all_goals
      rw [hM, he]
      omega
  exact nb_unsc (by rw [hM]; omega) key
theorem dd_zero (a : Int) : nb (dd a 0) (3 * (0 : Nat) * ee) := by
  have e : dd a 0 = (0, 0) := by
    unfold dd
    rw [Int.add_zero, show phi 0 = (MM, 0) from phC_zero]
    unfold sc gs gm
    ext <;> dsimp only <;> grind
  rw [e, Int.mul_assoc]
  simpa using nb_zero
theorem dd_big (a : Int) : ∀ k : Nat, k ≤ 64 → nb (dd a ((64 * k : Nat) : Int)) (3 * k * ee)
  | 0, _ => dd_zero a
  | k + 1, hk => by
    have := dd_step a ((64 * k : Nat) : Int) 64 (.inr rfl) k (by omega) (dd_big a k (by omega))
    rwa [show ((64 * k : Nat) : Int) + (64 : Nat) = ((64 * (k + 1) : Nat) : Int) by omega] at this
theorem dd_fine (a : Int) (k : Nat) (hk : k ≤ 64) : ∀ j : Nat, j ≤ 64 → nb (dd a ((64 * k + j : Nat) : Int)) (3 * (k + j : Nat) * ee)
  | 0, _ => dd_big a k hk
  | j + 1, hj => by
    have := dd_step a ((64 * k + j : Nat) : Int) 1 (.inl rfl) (k + j) (by omega) (dd_fine a k hk j (by omega))
    rwa [show ((64 * k + j : Nat) : Int) + (1 : Nat) = ((64 * k + (j + 1) : Nat) : Int) by omega] at this
/-- The point of a sum is nearly the product. -/
theorem phi_add (a b : Int) : nb (dd a b) 9600000000000000 := by
  have e : dd a b = dd a (b % 4096) := by
    unfold dd
    rw [phi_per (a := a + b) (b := a + b % 4096) (by omega), phi_per (a := b) (b := b % 4096) (by omega)]
  rw [e]
  have h := dd_fine a ((b % 4096).toNat / 64) (by omega) ((b % 4096).toNat % 64) (by omega)
  rw [show ((64 * ((b % 4096).toNat / 64) + (b % 4096).toNat % 64 : Nat) : Int) = b % 4096 by omega] at h
  refine nb_mono h ?_ ?_
  all_goals
    rw [show ee = 25000000000000 from rfl]
    omega

end Go.Proofs.Ytpmjheofjmdfeaa.phMath

namespace Go.Proofs.Ytpmjheofjmdfeaa.phPhi
open Go.ChangeShapes Go.WideShapes Go.ChangeAt Go.RowKit
open Go.ChangeMaps (open_string shut_string)
set_option linter.unusedVariables false
open Go Ieee
open Go.Proofs.Ytpmjheofjmdfeaa.floats Go.Proofs.Ytpmjheofjmdfeaa.round Go.Proofs.Ytpmjheofjmdfeaa.values Go.Proofs.Ytpmjheofjmdfeaa.conv Go.Proofs.Ytpmjheofjmdfeaa.float2 Go.Proofs.Ytpmjheofjmdfeaa.float3 Go.Proofs.Ytpmjheofjmdfeaa.phase Go.Proofs.Ytpmjheofjmdfeaa.sine Go.Proofs.Ytpmjheofjmdfeaa.phasor Go.Proofs.Ytpmjheofjmdfeaa.steerNum Go.Proofs.Ytpmjheofjmdfeaa.twinNum Go.Proofs.Ytpmjheofjmdfeaa.phDef Go.Proofs.Ytpmjheofjmdfeaa.gPoly Go.Proofs.Ytpmjheofjmdfeaa.phMath

theorem q_st : (q64 : Int) = 1024 * (st64 : Int) := by have := st_q; omega
/-- A difference of steps, exactly. -/
theorem sub_st {x y r : Nat} {a b : Int} (hx : FinW double x) (hy : FinW double y) (vx : V double x = a * (st64 : Int)) (vy : V double y = b * (st64 : Int)) (h : (a - b).natAbs ≤ 2 ^ 52) (hr : floatBits .sub .f64 x y = some r) : V double r = (a - b) * (st64 : Int) := by
  obtain ⟨c, c1, c2, c3⟩ := exact_int (a - b) h
  have hd : V double x - V double y = (a - b) * (st64 : Int) := by rw [vx, vy, Int.sub_mul]
  have hmc : mv double (rg double c) = (V double c).natAbs := by unfold V; rw [sg_abs]
  obtain ⟨s, hs, hss⟩ := sub_rnd double hx hy (hi := rg double c) c1 (by rw [hd, hmc, c3]; exact Nat.le_refl _)
  have : s = r := by
    have h' : floatBits .sub .f64 x y = some s := hs
    rw [hr] at h'
    exact (Option.some.inj h').symm
  subst this
  rw [rnd_exact hss c1 (by rw [hd, c3]; simp), c3]
theorem V_quarter_st : V double 4598175219545276416 = (1024 : Int) * (st64 : Int) := by rw [V_quarter, q_st]
theorem st_le {a b : Int} (h : a * (st64 : Int) ≤ b * (st64 : Int)) : a ≤ b := Int.le_of_mul_le_mul_right h (by have := st_pos; omega)
theorem qrun_V : ∀ (k : Nat), k ≤ 4 → ∀ (i f j : Nat), In4 f k → j < 4096 → V double f = (j : Int) * (st64 : Int) → ∃ g, qrun (k + 1) i f = (i + j / 1024, g) ∧ In4 g 1 ∧ V double g = ((j % 1024 : Nat) : Int) * (st64 : Int)
  | k, hk, i, f, j, h, hj, hv => by
    by_cases hge : (q64 : Int) ≤ V double f
    · have hj1 : 1024 ≤ j := by
        rw [hv, q_st] at hge
        have := st_le hge
        omega
      cases k with
      | zero => exact absurd hge h.small
      | succ k =>
        obtain ⟨e1, e2⟩ := qs_ok h (by omega) hge
        have v2 := sub_st h.fin F_quarter hv V_quarter_st (by omega) e1
        obtain ⟨g, hg, h4, hvg⟩ := qrun_V k (by omega) (i + 1) (qs f) (j - 1024) e2 (by omega) (by rw [v2, show ((j - 1024 : Nat) : Int) = (j : Int) - 1024 by omega])
        refine ⟨g, ?_, h4, ?_⟩
        · rw [show i + j / 1024 = i + 1 + (j - 1024) / 1024 by omega, ← hg]
          simp [qrun, hge]
        · rw [hvg, show (j - 1024) % 1024 = j % 1024 by omega]
    · have hj1 : j < 1024 := by
        rcases Nat.lt_or_ge j 1024 with h1 | h1
        · exact h1
        · exfalso
          apply hge
          rw [hv, q_st]
          exact Int.mul_le_mul_of_nonneg_right (by omega) (by have := st_pos; omega)
      refine ⟨f, ?_, ⟨h.fin, h.lt, h.lo, by have := q64_pos; omega⟩, ?_⟩
      · rw [show i + j / 1024 = i by omega]
        simp [qrun, hge]
      · rw [hv, show j % 1024 = j by omega]
theorem canon {g r : Nat} (h : In4 g 1) (h0 : 0 < r) (hr : r < 524288) (hv : V double g = (r : Int) * (st64 : Int)) : g = sx (r : Int) := by
  obtain ⟨_, s1, s2, s3⟩ := sx_ok (r : Int) (by omega)
  refine word_inj h.lt (by rw [sw64]; omega) (by rw [hv, sx_V (r : Int) (by omega)]) ?_
  rw [hv]
  have := st_pos
  intro h'
  rcases Int.mul_eq_zero.1 h' with h' | h' <;> omega
theorem four : ∀ q < 4, V single (phz ((1024 * q : Nat) : Int)).1 = (phi ((1024 * q : Nat) : Int)).1 * 2 ^ 115 ∧ V single (phz ((1024 * q : Nat) : Int)).2 = (phi ((1024 * q : Nat) : Int)).2 * 2 ^ 115 := by decide +kernel
/-- The phase for so many steps is the table's point. -/
theorem phz_phi (n : Int) (h : n.natAbs ≤ 524288) : V single (phz n).1 = (phi n).1 * 2 ^ 115 ∧ V single (phz n).2 = (phi n).2 * 2 ^ 115 := by
  by_cases hr0 : n % 1024 = 0
  · have h4 := four (n % 4096 / 1024).toNat (by omega)
    rw [show ((1024 * (n % 4096 / 1024).toNat : Nat) : Int) = n % 4096 by omega] at h4
    rw [phz_per (m := n % 4096) h (by omega) (by omega), phi_per (b := n % 4096) (by omega)]
    exact h4
  · obtain ⟨fv, f4⟩ := fr_V n h
    obtain ⟨j, hj, hj4⟩ : ∃ j : Nat, n % 4096 = j ∧ j < 4096 := ⟨(n % 4096).toNat, by omega, by omega⟩
    rw [hj] at fv
    obtain ⟨g, hg, hg1, hgv⟩ := qrun_V 4 (by omega) 0 (fr (sx n)) j f4 hj4 fv
    rw [Nat.zero_add] at hg
    have hr : 0 < j % 1024 := by omega
    have hgs := canon hg1 hr (by omega) hgv
    obtain ⟨c1, c2⟩ := cos_ok hg1
    have hcv := sub_st F_quarter hg1.fin V_quarter_st hgv (by omega) c1
    have hcs := canon (r := 1024 - j % 1024) c2 (by omega) (by omega) (by rw [hcv, show ((1024 - j % 1024 : Nat) : Int) = 1024 - ((j % 1024 : Nat) : Int) by omega])
    have es : sn g = wj (j % 1024) := by rw [hgs]; exact phVal.tab _ (by omega)
    have ec : cosine g = wj (1024 - j % 1024) := by unfold cosine; rw [hcs]; exact phVal.tab _ (by omega)
    obtain ⟨s1, s2⟩ := phVal.vals (j % 1024) (by omega)
    obtain ⟨d1, d2⟩ := phVal.vals (1024 - j % 1024) (by omega)
    have e1 : phz n = (nw (turned (j / 1024) (wj (1024 - j % 1024)) (wj (j % 1024))).1, nw (turned (j / 1024) (wj (1024 - j % 1024)) (wj (j % 1024))).2) := by
      unfold phz ph64
      rw [hg]
      dsimp only
      rw [es, ec]
    have e2 : phi n = phC j := by unfold phi; rw [hj, Int.toNat_natCast]
    rw [e1, e2]
    unfold turned phC
    have hq : j / 1024 = 0 ∨ j / 1024 = 1 ∨ j / 1024 = 2 ∨ j / 1024 = 3 := by omega
    rcases hq with hq | hq | hq | hq <;> rw [hq]
    · exact ⟨d1, s1⟩
    · exact ⟨s2, d1⟩
    · exact ⟨d2, s2⟩
    · exact ⟨s1, d2⟩

end Go.Proofs.Ytpmjheofjmdfeaa.phPhi

namespace Go.Proofs.Ytpmjheofjmdfeaa.steerR
open Go.ChangeShapes Go.WideShapes Go.ChangeAt Go.RowKit
open Go.ChangeMaps (open_string shut_string)
set_option linter.unusedVariables false
open Go Ieee Go.RowKit
open Go.Proofs.Ytpmjheofjmdfeaa.floats Go.Proofs.Ytpmjheofjmdfeaa.round Go.Proofs.Ytpmjheofjmdfeaa.values Go.Proofs.Ytpmjheofjmdfeaa.conv Go.Proofs.Ytpmjheofjmdfeaa.fWalk Go.Proofs.Ytpmjheofjmdfeaa.float2 Go.Proofs.Ytpmjheofjmdfeaa.float3 Go.Proofs.Ytpmjheofjmdfeaa.phase Go.Proofs.Ytpmjheofjmdfeaa.sine Go.Proofs.Ytpmjheofjmdfeaa.phasor Go.Proofs.Ytpmjheofjmdfeaa.listC Go.Proofs.Ytpmjheofjmdfeaa.steerNum Go.Proofs.Ytpmjheofjmdfeaa.sineIn Go.Proofs.Ytpmjheofjmdfeaa.polyNum Go.Proofs.Ytpmjheofjmdfeaa.gPoly Go.Proofs.Ytpmjheofjmdfeaa.gNum Go.Proofs.Ytpmjheofjmdfeaa.rq Go.Proofs.Ytpmjheofjmdfeaa.powW Go.Proofs.Ytpmjheofjmdfeaa.phMath Go.Proofs.Ytpmjheofjmdfeaa.phPhi

theorem MM_is : MM = 17179869184 := rfl
theorem two34 : two 34 = 17179869184 := rfl
theorem to_r {x : Nat} {k : Int} (h : V single x = k * 2 ^ 115) : r32 x = (k : Rat) / 17179869184 := by
  unfold r32
  rw [h, cast_pow, show two 149 = two 34 * two 115 from by rw [← two_add], two34]
  have := two_pos 115
  grind
theorem to_bs {x : Nat} {k : Int} (hf : FinW single x) (h : V single x = k * 2 ^ 115) (hk : k.natAbs ≤ 17179870208) : Bs x 1 := by
  refine ⟨hf, ?_⟩
  rw [h, gNum.k_abs]
  calc k.natAbs * 2 ^ 115 ≤ 2 ^ 35 * 2 ^ 115 := Nat.mul_le_mul_right _ (by omega)
    _ = 2 ^ (149 + 1) := by rw [← Nat.pow_add]
/-- A phase, as fractions. -/
theorem ph_r (n : Int) (h : n.natAbs ≤ 524288) : Cb (phz n) 1 ∧ r32 (phz n).1 = ((phi n).1 : Rat) / 17179869184 ∧ r32 (phz n).2 = ((phi n).2 : Rat) / 17179869184 := by
  obtain ⟨f1, f2⟩ := phz_fin n h
  obtain ⟨v1, v2⟩ := phz_phi n h
  have hp := nb_parts (phi_nb n).1 (by rw [MM_is]; omega)
  rw [MM_is] at hp
  exact ⟨⟨to_bs f1 v1 (by omega), to_bs f2 v2 (by omega)⟩, to_r v1, to_r v2⟩
theorem cast_nrm (g : G) : ((nrm g : Int) : Rat) = (g.1 : Rat) * g.1 + (g.2 : Rat) * g.2 := by unfold nrm; push_cast; rfl
theorem ph_one (n : Int) (h : n.natAbs ≤ 524288) : nr (r32 (phz n).1 * r32 (phz n).1 + r32 (phz n).2 * r32 (phz n).2) 1 (1 / 4194304) := by
  obtain ⟨_, e1, e2⟩ := ph_r n h
  obtain ⟨h1, h2⟩ := phi_nb n
  unfold phMath.nb at h1
  rw [MM_is] at h1 h2
  have a1 := Rat.intCast_le_intCast.2 h1
  have a2 := Rat.intCast_le_intCast.2 h2
  rw [cast_nrm] at a1 a2
  rw [e1, e2]
  push_cast at a1 a2
  unfold nr
  constructor <;> grind
theorem ph_pow (n : Int) (h : n.natAbs ≤ 524288) : Bs (nw (pwW (phz n))) 3 ∧ nr (r32 (nw (pwW (phz n)))) 1 (1 / 131072) := by
  obtain ⟨hc, _, _⟩ := ph_r n h
  obtain ⟨_, b, _, n1⟩ := pow_ok hc (by omega)
  obtain ⟨b2, n2⟩ := nw_r b (by omega)
  refine ⟨b2, nr_mono (nr_trans n2 (nr_trans n1 (ph_one n h))) ?_⟩
  rw [show two (1 + 1 + 1) = 8 from rfl, show two (1 + 1) = 4 from rfl, two_num 22 4194304 rfl, two_num 47 140737488355328 rfl]
  grind
theorem part_near (m a b : Int) (h : (17179869184 * m - a).natAbs ≤ 9600000000000000) : nr ((m : Rat) / 17179869184) ((a : Rat) / (17179869184 * 17179869184)) (1 / 24576) := by
  have h1 : 17179869184 * m - a ≤ 9600000000000000 := by omega
  have h2 : a - 17179869184 * m ≤ 9600000000000000 := by omega
  have a1 := Rat.intCast_le_intCast.2 h1
  have a2 := Rat.intCast_le_intCast.2 h2
  push_cast at a1 a2
  unfold nr
  constructor <;> grind
/-- The phase of a sum is nearly the product. -/
theorem ph_add (n m : Int) (h1 : n.natAbs ≤ 524288) (h2 : m.natAbs ≤ 524288) (h3 : (n + m).natAbs ≤ 524288) :
    nr (r32 (phz (n + m)).1) (r32 (phz n).1 * r32 (phz m).1 - r32 (phz n).2 * r32 (phz m).2) (1 / 24576) ∧ nr (r32 (phz (n + m)).2) (r32 (phz n).1 * r32 (phz m).2 + r32 (phz n).2 * r32 (phz m).1) (1 / 24576) := by
  obtain ⟨_, a1, a2⟩ := ph_r n h1
  obtain ⟨_, b1, b2⟩ := ph_r m h2
  obtain ⟨_, c1, c2⟩ := ph_r (n + m) h3
  obtain ⟨d1, d2⟩ := nb_parts (phi_add n m) (by omega)
  unfold dd phMath.sc gs gm at d1 d2
  rw [MM_is] at d1 d2
  dsimp only at d1 d2
  have p1 := part_near _ _ 0 (Nat.le_trans d1 (by decide))
  have p2 := part_near _ _ 0 (Nat.le_trans d2 (by decide))
  rw [a1, a2, b1, b2, c1, c2]
  push_cast at p1 p2
  unfold nr at *
  constructor
  · constructor <;> grind
  · constructor <;> grind
theorem ph_mul (n m : Int) (h1 : n.natAbs ≤ 524288) (h2 : m.natAbs ≤ 524288) (h3 : (n + m).natAbs ≤ 524288) :
    Cb (mulw (phz n) (phz m)) 3 ∧ MulOk (phz n) (phz m) ∧ nr (r32 (phz (n + m)).1) (r32 (mulw (phz n) (phz m)).1) (1 / 8192) ∧ nr (r32 (phz (n + m)).2) (r32 (mulw (phz n) (phz m)).2) (1 / 8192) := by
  obtain ⟨ca, _, _⟩ := ph_r n h1
  obtain ⟨cb, _, _⟩ := ph_r m h2
  obtain ⟨mo, mc⟩ := mul_ok ca cb (by omega)
  obtain ⟨q1, q2⟩ := mul_near ca cb (by omega)
  obtain ⟨p1, p2⟩ := ph_add n m h1 h2 h3
  rw [show two (1 + 1 + 1) = 8 from rfl, two_num 20 1048576 rfl] at q1 q2
  refine ⟨mc, mo, ?_, ?_⟩
  · unfold nr at *; grind
  · unfold nr at *; grind

/-! ## quarters -/
def ipow (t : Int) : G := if t % 4 = 0 then (1, 0) else if t % 4 = 1 then (0, 1) else if t % 4 = 2 then (-1, 0) else (0, -1)
theorem ipow_mul (a b : Int) : gm (ipow a) (ipow b) = ipow (a + b) := by
  have ha : a % 4 = 0 ∨ a % 4 = 1 ∨ a % 4 = 2 ∨ a % 4 = 3 := by omega
  have hb : b % 4 = 0 ∨ b % 4 = 1 ∨ b % 4 = 2 ∨ b % 4 = 3 := by omega
  have hc : (a + b) % 4 = (a % 4 + b % 4) % 4 := by omega
  unfold ipow
  rw [hc]
  rcases ha with h | h | h | h <;> rcases hb with h' | h' | h' | h' <;> rw [h, h'] <;> rfl
theorem ipow_N (a : Int) : gN (ipow a) ≤ 1 := by
  unfold ipow
  split
  · decide
  · split
    · decide
    · split <;> decide
theorem four_is : ∀ q < 4, phC (1024 * q) = (17179869184 * (ipow (q : Int)).1, 17179869184 * (ipow (q : Int)).2) := by decide +kernel
theorem s32_of {x : Nat} {k : Int} (hf : FinW single x) (h : V single x = 17179869184 * k * 2 ^ 115) : S32 x k := by
  refine ⟨hf, ?_⟩
  rw [h, show (149 : Nat) = 34 + 115 from rfl, Int.pow_add, ← Int.mul_assoc, Int.mul_comm 17179869184 k]
  rfl
theorem quarter (t : Int) (h : (1024 * t).natAbs ≤ 524288) : Gi (phz (1024 * t)) (ipow t) := by
  obtain ⟨f1, f2⟩ := phz_fin _ h
  obtain ⟨v1, v2⟩ := phz_phi _ h
  have hq := four_is (t % 4).toNat (by omega)
  have e1 : phi (1024 * t) = phC (1024 * (t % 4).toNat) := by
    unfold phi
    rw [show (1024 * t % 4096).toNat = 1024 * (t % 4).toNat by omega]
  have e2 : ipow (((t % 4).toNat : Nat) : Int) = ipow t := by
    unfold ipow
    rw [show (((t % 4).toNat : Nat) : Int) % 4 = t % 4 by omega]
  rw [e2] at hq
  rw [e1, hq] at v1 v2
  exact ⟨s32_of f1 v1, s32_of f2 v2⟩
theorem ipow_word {x y : Nat × Nat} {a b : Int} (hx : Gi x (ipow a)) (hy : Gi y (ipow b)) : MulOk x y ∧ Gi (mulw x y) (ipow (a + b)) := by
  have h1 := ipow_N a
  have h2 := ipow_N b
  have h3 : gN (ipow a) * gN (ipow b) ≤ 1 * 1 := Nat.mul_le_mul h1 h2
  obtain ⟨m, g⟩ := mul_g hx hy (by omega) (by omega) (by omega)
  rw [ipow_mul] at g
  exact ⟨m, g⟩
theorem ipow_eq {x y : Nat × Nat} {a : Int} (hx : Gi x (ipow a)) (hy : Gi y (ipow a)) : (FloatKind.f32.format.order x.1 y.1 == some .eq) = true ∧ (FloatKind.f32.format.order x.2 y.2 == some .eq) = true := by
  rw [order_s hx.1 hy.1, order_s hx.2 hy.2]
  simp
theorem w_one : Gi (1065353216, 0) (ipow 0) := Gi.one
theorem w_i : Gi (0, 1065353216) (ipow 1) := ⟨S32.zero, S32.one⟩
theorem w_neg : Gi (3212836864, 0) (ipow 2) := ⟨⟨by unfold values.FinW; decide +kernel, by decide +kernel⟩, S32.zero⟩

end Go.Proofs.Ytpmjheofjmdfeaa.steerR
