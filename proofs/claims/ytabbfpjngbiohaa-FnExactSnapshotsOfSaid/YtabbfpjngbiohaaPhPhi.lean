/- Phases of a wave are the points of the table. -/
import Derived.Test.YtabbfpjngbiohaaRows
import Derived.Test.YtabbfpjngbiohaaSlc
import Derived.Test.YtabbfpjngbiohaaSmall
import Derived.Test.YtabbfpjngbiohaaOpens
import Derived.Test.YtabbfpjngbiohaaFloats
import Derived.Test.YtabbfpjngbiohaaRound
import Derived.Test.YtabbfpjngbiohaaValues
import Derived.Test.YtabbfpjngbiohaaConv
import Derived.Test.YtabbfpjngbiohaaFWalk
import Derived.Test.YtabbfpjngbiohaaFinWalk
import Derived.Test.YtabbfpjngbiohaaFloat2
import Derived.Test.YtabbfpjngbiohaaFloat3
import Derived.Test.YtabbfpjngbiohaaPhase
import Derived.Test.YtabbfpjngbiohaaSine
import Derived.Test.YtabbfpjngbiohaaPhasor
import Derived.Test.YtabbfpjngbiohaaListC
import Derived.Test.YtabbfpjngbiohaaSteerNum
import Derived.Test.YtabbfpjngbiohaaTwinNum
import Derived.Test.YtabbfpjngbiohaaPhDef
import Derived.Test.YtabbfpjngbiohaaPhTabA
import Derived.Test.YtabbfpjngbiohaaPhTabB
import Derived.Test.YtabbfpjngbiohaaPhTabC
import Derived.Test.YtabbfpjngbiohaaPhTabD
import Derived.Test.YtabbfpjngbiohaaPhVal
import Derived.Test.YtabbfpjngbiohaaGPoly
import Derived.Test.YtabbfpjngbiohaaPhMath
import Derived.WalkKit
import Derived.ProofKit
import Derived.OpenShut
import Derived.ShutString
import Derived.ChangeOld
import Derived.Below
import Derived.Lib.Hide
import Derived.BigQuiet
import Derived.Deep.QuietTactic
import Derived.WalkLawsBesides
import Derived.Outline
namespace Go.Proofs.Ytabbfpjngbiohaa.phPhi
open Go.ChangeShapes Go.WideShapes Go.ChangeAt Go.RowKit
open Go.ChangeMaps (open_string shut_string)
set_option linter.unusedVariables false
open Go Ieee
open Go.Proofs.Ytabbfpjngbiohaa.floats Go.Proofs.Ytabbfpjngbiohaa.round Go.Proofs.Ytabbfpjngbiohaa.values Go.Proofs.Ytabbfpjngbiohaa.conv Go.Proofs.Ytabbfpjngbiohaa.float2 Go.Proofs.Ytabbfpjngbiohaa.float3 Go.Proofs.Ytabbfpjngbiohaa.phase Go.Proofs.Ytabbfpjngbiohaa.sine Go.Proofs.Ytabbfpjngbiohaa.phasor Go.Proofs.Ytabbfpjngbiohaa.steerNum Go.Proofs.Ytabbfpjngbiohaa.twinNum Go.Proofs.Ytabbfpjngbiohaa.phDef Go.Proofs.Ytabbfpjngbiohaa.gPoly Go.Proofs.Ytabbfpjngbiohaa.phMath

theorem q_st : (q64 : Int) = 1024 * (st64 : Int) := by have := st_q; omega
/-- A difference of steps, exactly. -/
theorem sub_st {x y r : Nat} {a b : Int} (hx : FinW double x) (hy : FinW double y) (vx : V double x = a * (st64 : Int)) (vy : V double y = b * (st64 : Int)) (h : (a - b).natAbs ≤ 2 ^ 52) (hr : floatBits .sub .f64 x y = some r) : V double r = (a - b) * (st64 : Int) := by
  obtain ⟨c, c1, c2, c3⟩ := exact_int (a - b) h
  have hd : V double x - V double y = (a - b) * (st64 : Int) := by rw [vx, vy, Int.sub_mul]
  have hmc : mv double (rg double c) = (V double c).natAbs := by unfold V; rw [sg_abs]
  obtain ⟨s, hs, hss⟩ := sub_rnd double hx hy (hi := rg double c) c1 (by rw [hd, hmc, c3]; exact Nat.le_refl _)
  have : s = r := by
    have h' : floatBits .sub .f64 x y = some s := hs
    rw [hr] at h'
    exact (Option.some.inj h').symm
  subst this
  rw [rnd_exact hss c1 (by rw [hd, c3]; simp), c3]
theorem V_quarter_st : V double 4598175219545276416 = (1024 : Int) * (st64 : Int) := by rw [V_quarter, q_st]
theorem st_le {a b : Int} (h : a * (st64 : Int) ≤ b * (st64 : Int)) : a ≤ b := Int.le_of_mul_le_mul_right h (by have := st_pos; omega)
theorem qrun_V : ∀ (k : Nat), k ≤ 4 → ∀ (i f j : Nat), In4 f k → j < 4096 → V double f = (j : Int) * (st64 : Int) → ∃ g, qrun (k + 1) i f = (i + j / 1024, g) ∧ In4 g 1 ∧ V double g = ((j % 1024 : Nat) : Int) * (st64 : Int)
  | k, hk, i, f, j, h, hj, hv => by
    by_cases hge : (q64 : Int) ≤ V double f
    · have hj1 : 1024 ≤ j := by
        rw [hv, q_st] at hge
        have := st_le hge
        omega
      cases k with
      | zero => exact absurd hge h.small
      | succ k =>
        obtain ⟨e1, e2⟩ := qs_ok h (by omega) hge
        have v2 := sub_st h.fin F_quarter hv V_quarter_st (by omega) e1
        obtain ⟨g, hg, h4, hvg⟩ := qrun_V k (by omega) (i + 1) (qs f) (j - 1024) e2 (by omega) (by rw [v2, show ((j - 1024 : Nat) : Int) = (j : Int) - 1024 by omega])
        refine ⟨g, ?_, h4, ?_⟩
        · rw [show i + j / 1024 = i + 1 + (j - 1024) / 1024 by omega, ← hg]
          simp [qrun, hge]
        · rw [hvg, show (j - 1024) % 1024 = j % 1024 by omega]
    · have hj1 : j < 1024 := by
        rcases Nat.lt_or_ge j 1024 with h1 | h1
        · exact h1
        · exfalso
          apply hge
          rw [hv, q_st]
          exact Int.mul_le_mul_of_nonneg_right (by omega) (by have := st_pos; omega)
      refine ⟨f, ?_, ⟨h.fin, h.lt, h.lo, by have := q64_pos; omega⟩, ?_⟩
      · rw [show i + j / 1024 = i by omega]
        simp [qrun, hge]
      · rw [hv, show j % 1024 = j by omega]
theorem canon {g r : Nat} (h : In4 g 1) (h0 : 0 < r) (hr : r < 524288) (hv : V double g = (r : Int) * (st64 : Int)) : g = sx (r : Int) := by
  obtain ⟨_, s1, s2, s3⟩ := sx_ok (r : Int) (by omega)
  refine word_inj h.lt (by rw [sw64]; omega) (by rw [hv, sx_V (r : Int) (by omega)]) ?_
  rw [hv]
  have := st_pos
  intro h'
  rcases Int.mul_eq_zero.1 h' with h' | h' <;> omega
theorem four : ∀ q < 4, V single (phz ((1024 * q : Nat) : Int)).1 = (phi ((1024 * q : Nat) : Int)).1 * 2 ^ 115 ∧ V single (phz ((1024 * q : Nat) : Int)).2 = (phi ((1024 * q : Nat) : Int)).2 * 2 ^ 115 := by decide +kernel
/-- The phase for so many steps is the table's point. -/
theorem phz_phi (n : Int) (h : n.natAbs ≤ 524288) : V single (phz n).1 = (phi n).1 * 2 ^ 115 ∧ V single (phz n).2 = (phi n).2 * 2 ^ 115 := by
  by_cases hr0 : n % 1024 = 0
  · have h4 := four (n % 4096 / 1024).toNat (by omega)
    rw [show ((1024 * (n % 4096 / 1024).toNat : Nat) : Int) = n % 4096 by omega] at h4
    rw [phz_per (m := n % 4096) h (by omega) (by omega), phi_per (b := n % 4096) (by omega)]
    exact h4
  · obtain ⟨fv, f4⟩ := fr_V n h
    obtain ⟨j, hj, hj4⟩ : ∃ j : Nat, n % 4096 = j ∧ j < 4096 := ⟨(n % 4096).toNat, by omega, by omega⟩
    rw [hj] at fv
    obtain ⟨g, hg, hg1, hgv⟩ := qrun_V 4 (by omega) 0 (fr (sx n)) j f4 hj4 fv
    rw [Nat.zero_add] at hg
    have hr : 0 < j % 1024 := by omega
    have hgs := canon hg1 hr (by omega) hgv
    obtain ⟨c1, c2⟩ := cos_ok hg1
    have hcv := sub_st F_quarter hg1.fin V_quarter_st hgv (by omega) c1
    have hcs := canon (r := 1024 - j % 1024) c2 (by omega) (by omega) (by rw [hcv, show ((1024 - j % 1024 : Nat) : Int) = 1024 - ((j % 1024 : Nat) : Int) by omega])
    have es : sn g = wj (j % 1024) := by rw [hgs]; exact phVal.tab _ (by omega)
    have ec : cosine g = wj (1024 - j % 1024) := by unfold cosine; rw [hcs]; exact phVal.tab _ (by omega)
    obtain ⟨s1, s2⟩ := phVal.vals (j % 1024) (by omega)
    obtain ⟨d1, d2⟩ := phVal.vals (1024 - j % 1024) (by omega)
    have e1 : phz n = (nw (turned (j / 1024) (wj (1024 - j % 1024)) (wj (j % 1024))).1, nw (turned (j / 1024) (wj (1024 - j % 1024)) (wj (j % 1024))).2) := by
      unfold phz ph64
      rw [hg]
      dsimp only
      rw [es, ec]
    have e2 : phi n = phC j := by unfold phi; rw [hj, Int.toNat_natCast]
    rw [e1, e2]
    unfold turned phC
    have hq : j / 1024 = 0 ∨ j / 1024 = 1 ∨ j / 1024 = 2 ∨ j / 1024 = 3 := by omega
    rcases hq with hq | hq | hq | hq <;> rw [hq]
    · exact ⟨d1, s1⟩
    · exact ⟨s2, d1⟩
    · exact ⟨d2, s2⟩
    · exact ⟨s1, d2⟩

end Go.Proofs.Ytabbfpjngbiohaa.phPhi
