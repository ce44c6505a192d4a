/- The table of sines: words and values. -/
/- Phases of a wave are the points of the table. -/
/- Phases of a wave as fractions: their length is nearly 1, that of a sum is nearly the product, and quarters are exact. -/
import Derived.Test.YtkjmlpdbnnmlhabSlc
import Derived.Test.YtkjmlpdbnnmlhabSmall
import Derived.Test.YtkjmlpdbnnmlhabOpens
import Derived.Test.YtkjmlpdbnnmlhabFloats
import Derived.Test.YtkjmlpdbnnmlhabRound
import Derived.Test.YtkjmlpdbnnmlhabValues
import Derived.Test.YtkjmlpdbnnmlhabConv
import Derived.Test.YtkjmlpdbnnmlhabFWalk
import Derived.Test.YtkjmlpdbnnmlhabFinWalk
import Derived.Test.YtkjmlpdbnnmlhabFloat2
import Derived.Test.YtkjmlpdbnnmlhabFloat3
import Derived.Test.YtkjmlpdbnnmlhabPhase
import Derived.Test.YtkjmlpdbnnmlhabSine
import Derived.Test.YtkjmlpdbnnmlhabPhasor
import Derived.Test.YtkjmlpdbnnmlhabListC
import Derived.Test.YtkjmlpdbnnmlhabSteerNum
import Derived.Test.YtkjmlpdbnnmlhabPhDef
import Derived.Test.YtkjmlpdbnnmlhabPhTabA
import Derived.Test.YtkjmlpdbnnmlhabPhTabB
import Derived.Test.YtkjmlpdbnnmlhabPhTabC
import Derived.Test.YtkjmlpdbnnmlhabPhTabD
import Derived.Test.YtkjmlpdbnnmlhabRows
import Derived.Test.YtkjmlpdbnnmlhabTwinNum
import Derived.Test.YtkjmlpdbnnmlhabGPoly
import Derived.Test.YtkjmlpdbnnmlhabPhMath
import Derived.Test.YtkjmlpdbnnmlhabRoot
import Derived.Test.YtkjmlpdbnnmlhabSineIn
import Derived.Test.YtkjmlpdbnnmlhabPolyNum
import Derived.Test.YtkjmlpdbnnmlhabPolyW
import Derived.Test.YtkjmlpdbnnmlhabGNum
import Derived.Test.YtkjmlpdbnnmlhabRq
import Derived.Test.YtkjmlpdbnnmlhabPowW
import Derived.WalkKit
import Derived.ProofKit
import Derived.OpenShut
import Derived.ShutString
import Derived.ChangeOld
import Derived.Below
import Derived.Lib.Hide
import Derived.BigQuiet
import Derived.Deep.QuietTactic
import Derived.WalkLawsBesides
import Derived.Outline
namespace Go.Proofs.Ytkjmlpdbnnmlhab.phVal
set_option linter.unusedVariables false
open Go Ieee
open Go.Proofs.Ytkjmlpdbnnmlhab.floats Go.Proofs.Ytkjmlpdbnnmlhab.round Go.Proofs.Ytkjmlpdbnnmlhab.values Go.Proofs.Ytkjmlpdbnnmlhab.conv Go.Proofs.Ytkjmlpdbnnmlhab.float2 Go.Proofs.Ytkjmlpdbnnmlhab.float3 Go.Proofs.Ytkjmlpdbnnmlhab.phase Go.Proofs.Ytkjmlpdbnnmlhab.phasor Go.Proofs.Ytkjmlpdbnnmlhab.steerNum Go.Proofs.Ytkjmlpdbnnmlhab.phDef

theorem tab (j : Nat) (h : j < 1025) : sn (sx (j : Int)) = wj j := by
  by_cases h1 : j < 257
  · exact phTabA.tab j h1
  · by_cases h2 : j < 513
    · have := phTabB.tab (j - 257) (by omega)
      rwa [show j - 257 + 257 = j by omega] at this
    · by_cases h3 : j < 769
      · have := phTabC.tab (j - 513) (by omega)
        rwa [show j - 513 + 513 = j by omega] at this
      · have := phTabD.tab (j - 769) (by omega)
        rwa [show j - 769 + 769 = j by omega] at this
theorem vals : ∀ j < 1025, V single (nw (wj j)) = (tj j : Int) * 2 ^ 115 ∧ V single (nw (bv .sub 0 (wj j))) = -(tj j : Int) * 2 ^ 115 := by decide +kernel

end Go.Proofs.Ytkjmlpdbnnmlhab.phVal

namespace Go.Proofs.Ytkjmlpdbnnmlhab.phPhi
open Go.ChangeShapes Go.WideShapes Go.ChangeAt Go.RowKit
open Go.ChangeMaps (open_string shut_string)
set_option linter.unusedVariables false
open Go Ieee
open Go.Proofs.Ytkjmlpdbnnmlhab.floats Go.Proofs.Ytkjmlpdbnnmlhab.round Go.Proofs.Ytkjmlpdbnnmlhab.values Go.Proofs.Ytkjmlpdbnnmlhab.conv Go.Proofs.Ytkjmlpdbnnmlhab.float2 Go.Proofs.Ytkjmlpdbnnmlhab.float3 Go.Proofs.Ytkjmlpdbnnmlhab.phase Go.Proofs.Ytkjmlpdbnnmlhab.sine Go.Proofs.Ytkjmlpdbnnmlhab.phasor Go.Proofs.Ytkjmlpdbnnmlhab.steerNum Go.Proofs.Ytkjmlpdbnnmlhab.twinNum Go.Proofs.Ytkjmlpdbnnmlhab.phDef Go.Proofs.Ytkjmlpdbnnmlhab.gPoly Go.Proofs.Ytkjmlpdbnnmlhab.phMath

theorem q_st : (q64 : Int) = 1024 * (st64 : Int) := by have := st_q; omega
/-- A difference of steps, exactly. -/
theorem sub_st {x y r : Nat} {a b : Int} (hx : FinW double x) (hy : FinW double y) (vx : V double x = a * (st64 : Int)) (vy : V double y = b * (st64 : Int)) (h : (a - b).natAbs ≤ 2 ^ 52) (hr : floatBits .sub .f64 x y = some r) : V double r = (a - b) * (st64 : Int) := by
  obtain ⟨c, c1, c2, c3⟩ := exact_int (a - b) h
  have hd : V double x - V double y = (a - b) * (st64 : Int) := by rw [vx, vy, Int.sub_mul]
  have hmc : mv double (rg double c) = (V double c).natAbs := by unfold V; rw [sg_abs]
  obtain ⟨s, hs, hss⟩ := sub_rnd double hx hy (hi := rg double c) c1 (by rw [hd, hmc, c3]; exact Nat.le_refl _)
  have : s = r := by
    have h' : floatBits .sub .f64 x y = some s := hs
    rw [hr] at h'
    exact (Option.some.inj h').symm
  subst this
  rw [rnd_exact hss c1 (by rw [hd, c3]; simp), c3]
theorem V_quarter_st : V double 4598175219545276416 = (1024 : Int) * (st64 : Int) := by rw [V_quarter, q_st]
theorem st_le {a b : Int} (h : a * (st64 : Int) ≤ b * (st64 : Int)) : a ≤ b := Int.le_of_mul_le_mul_right h (by have := st_pos; omega)
theorem qrun_V : ∀ (k : Nat), k ≤ 4 → ∀ (i f j : Nat), In4 f k → j < 4096 → V double f = (j : Int) * (st64 : Int) → ∃ g, qrun (k + 1) i f = (i + j / 1024, g) ∧ In4 g 1 ∧ V double g = ((j % 1024 : Nat) : Int) * (st64 : Int)
  | k, hk, i, f, j, h, hj, hv => by
    by_cases hge : (q64 : Int) ≤ V double f
    · have hj1 : 1024 ≤ j := by
        rw [hv, q_st] at hge
        have := st_le hge
        omega
      cases k with
      | zero => exact absurd hge h.small
      | succ k =>
        obtain ⟨e1, e2⟩ := qs_ok h (by omega) hge
        have v2 := sub_st h.fin F_quarter hv V_quarter_st (by omega) e1
        obtain ⟨g, hg, h4, hvg⟩ := qrun_V k (by omega) (i + 1) (qs f) (j - 1024) e2 (by omega) (by rw [v2, show ((j - 1024 : Nat) : Int) = (j : Int) - 1024 by omega])
        refine ⟨g, ?_, h4, ?_⟩
        · rw [show i + j / 1024 = i + 1 + (j - 1024) / 1024 by omega, ← hg]
          simp [qrun, hge]
        · rw [hvg, show (j - 1024) % 1024 = j % 1024 by omega]
    · have hj1 : j < 1024 := by
        rcases Nat.lt_or_ge j 1024 with h1 | h1
        · exact h1
        · exfalso
          apply hge
          rw [hv, q_st]
          exact Int.mul_le_mul_of_nonneg_right (by omega) (by have := st_pos; omega)
      refine ⟨f, ?_, ⟨h.fin, h.lt, h.lo, by have := q64_pos; omega⟩, ?_⟩
      · rw [show i + j / 1024 = i by omega]
        simp [qrun, hge]
      · rw [hv, show j % 1024 = j by omega]
theorem canon {g r : Nat} (h : In4 g 1) (h0 : 0 < r) (hr : r < 524288) (hv : V double g = (r : Int) * (st64 : Int)) : g = sx (r : Int) := by
  obtain ⟨_, s1, s2, s3⟩ := sx_ok (r : Int) (by omega)
  refine word_inj h.lt (by rw [sw64]; omega) (by rw [hv, sx_V (r : Int) (by omega)]) ?_
  rw [hv]
  have := st_pos
  intro h'
  rcases Int.mul_eq_zero.1 h' with h' | h' <;> omega
theorem four : ∀ q < 4, V single (phz ((1024 * q : Nat) : Int)).1 = (phi ((1024 * q : Nat) : Int)).1 * 2 ^ 115 ∧ V single (phz ((1024 * q : Nat) : Int)).2 = (phi ((1024 * q : Nat) : Int)).2 * 2 ^ 115 := by decide +kernel
/-- The phase for so many steps is the table's point. -/
theorem phz_phi (n : Int) (h : n.natAbs ≤ 524288) : V single (phz n).1 = (phi n).1 * 2 ^ 115 ∧ V single (phz n).2 = (phi n).2 * 2 ^ 115 := by
  by_cases hr0 : n % 1024 = 0
  · have h4 := four (n % 4096 / 1024).toNat (by omega)
    rw [show ((1024 * (n % 4096 / 1024).toNat : Nat) : Int) = n % 4096 by omega] at h4
    rw [phz_per (m := n % 4096) h (by omega) (by omega), phi_per (b := n % 4096) (by omega)]
    exact h4
  · obtain ⟨fv, f4⟩ := fr_V n h
    obtain ⟨j, hj, hj4⟩ : ∃ j : Nat, n % 4096 = j ∧ j < 4096 := ⟨(n % 4096).toNat, by omega, by omega⟩
    rw [hj] at fv
    obtain ⟨g, hg, hg1, hgv⟩ := qrun_V 4 (by omega) 0 (fr (sx n)) j f4 hj4 fv
    rw [Nat.zero_add] at hg
    have hr : 0 < j % 1024 := by omega
    have hgs := canon hg1 hr (by omega) hgv
    obtain ⟨c1, c2⟩ := cos_ok hg1
    have hcv := sub_st F_quarter hg1.fin V_quarter_st hgv (by omega) c1
    have hcs := canon (r := 1024 - j % 1024) c2 (by omega) (by omega) (by rw [hcv, show ((1024 - j % 1024 : Nat) : Int) = 1024 - ((j % 1024 : Nat) : Int) by omega])
    have es : sn g = wj (j % 1024) := by rw [hgs]; exact phVal.tab _ (by omega)
    have ec : cosine g = wj (1024 - j % 1024) := by unfold cosine; rw [hcs]; exact phVal.tab _ (by omega)
    obtain ⟨s1, s2⟩ := phVal.vals (j % 1024) (by omega)
    obtain ⟨d1, d2⟩ := phVal.vals (1024 - j % 1024) (by omega)
    have e1 : phz n = (nw (turned (j / 1024) (wj (1024 - j % 1024)) (wj (j % 1024))).1, nw (turned (j / 1024) (wj (1024 - j % 1024)) (wj (j % 1024))).2) := by
      unfold phz ph64
      rw [hg]
      dsimp only
      rw [es, ec]
    have e2 : phi n = phC j := by unfold phi; rw [hj, Int.toNat_natCast]
    rw [e1, e2]
    unfold turned phC
    have hq : j / 1024 = 0 ∨ j / 1024 = 1 ∨ j / 1024 = 2 ∨ j / 1024 = 3 := by omega
    rcases hq with hq | hq | hq | hq <;> rw [hq]
    · exact ⟨d1, s1⟩
    · exact ⟨s2, d1⟩
    · exact ⟨d2, s2⟩
    · exact ⟨s1, d2⟩

end Go.Proofs.Ytkjmlpdbnnmlhab.phPhi

namespace Go.Proofs.Ytkjmlpdbnnmlhab.steerR
open Go.ChangeShapes Go.WideShapes Go.ChangeAt Go.RowKit
open Go.ChangeMaps (open_string shut_string)
set_option linter.unusedVariables false
open Go Ieee Go.RowKit
open Go.Proofs.Ytkjmlpdbnnmlhab.floats Go.Proofs.Ytkjmlpdbnnmlhab.round Go.Proofs.Ytkjmlpdbnnmlhab.values Go.Proofs.Ytkjmlpdbnnmlhab.conv Go.Proofs.Ytkjmlpdbnnmlhab.fWalk Go.Proofs.Ytkjmlpdbnnmlhab.float2 Go.Proofs.Ytkjmlpdbnnmlhab.float3 Go.Proofs.Ytkjmlpdbnnmlhab.phase Go.Proofs.Ytkjmlpdbnnmlhab.sine Go.Proofs.Ytkjmlpdbnnmlhab.phasor Go.Proofs.Ytkjmlpdbnnmlhab.listC Go.Proofs.Ytkjmlpdbnnmlhab.steerNum Go.Proofs.Ytkjmlpdbnnmlhab.sineIn Go.Proofs.Ytkjmlpdbnnmlhab.polyNum Go.Proofs.Ytkjmlpdbnnmlhab.gPoly Go.Proofs.Ytkjmlpdbnnmlhab.gNum Go.Proofs.Ytkjmlpdbnnmlhab.rq Go.Proofs.Ytkjmlpdbnnmlhab.powW Go.Proofs.Ytkjmlpdbnnmlhab.phMath Go.Proofs.Ytkjmlpdbnnmlhab.phPhi

theorem MM_is : MM = 17179869184 := rfl
theorem two34 : two 34 = 17179869184 := rfl
theorem to_r {x : Nat} {k : Int} (h : V single x = k * 2 ^ 115) : r32 x = (k : Rat) / 17179869184 := by
  unfold r32
  rw [h, cast_pow, show two 149 = two 34 * two 115 from by rw [← two_add], two34]
  have := two_pos 115
  grind
theorem to_bs {x : Nat} {k : Int} (hf : FinW single x) (h : V single x = k * 2 ^ 115) (hk : k.natAbs ≤ 17179870208) : Bs x 1 := by
  refine ⟨hf, ?_⟩
  rw [h, gNum.k_abs]
  calc k.natAbs * 2 ^ 115 ≤ 2 ^ 35 * 2 ^ 115 := Nat.mul_le_mul_right _ (by omega)
    _ = 2 ^ (149 + 1) := by rw [← Nat.pow_add]
/-- A phase, as fractions. -/
theorem ph_r (n : Int) (h : n.natAbs ≤ 524288) : Cb (phz n) 1 ∧ r32 (phz n).1 = ((phi n).1 : Rat) / 17179869184 ∧ r32 (phz n).2 = ((phi n).2 : Rat) / 17179869184 := by
  obtain ⟨f1, f2⟩ := phz_fin n h
  obtain ⟨v1, v2⟩ := phz_phi n h
  have hp := nb_parts (phi_nb n).1 (by rw [MM_is]; omega)
  rw [MM_is] at hp
  exact ⟨⟨to_bs f1 v1 (by omega), to_bs f2 v2 (by omega)⟩, to_r v1, to_r v2⟩
theorem cast_nrm (g : G) : ((nrm g : Int) : Rat) = (g.1 : Rat) * g.1 + (g.2 : Rat) * g.2 := by unfold nrm; push_cast; rfl
theorem ph_one (n : Int) (h : n.natAbs ≤ 524288) : nr (r32 (phz n).1 * r32 (phz n).1 + r32 (phz n).2 * r32 (phz n).2) 1 (1 / 4194304) := by
  obtain ⟨_, e1, e2⟩ := ph_r n h
  obtain ⟨h1, h2⟩ := phi_nb n
  unfold phMath.nb at h1
  rw [MM_is] at h1 h2
  have a1 := Rat.intCast_le_intCast.2 h1
  have a2 := Rat.intCast_le_intCast.2 h2
  rw [cast_nrm] at a1 a2
  rw [e1, e2]
  push_cast at a1 a2
  unfold nr
  constructor <;> grind
theorem ph_pow (n : Int) (h : n.natAbs ≤ 524288) : Bs (nw (pwW (phz n))) 3 ∧ nr (r32 (nw (pwW (phz n)))) 1 (1 / 131072) := by
  obtain ⟨hc, _, _⟩ := ph_r n h
  obtain ⟨_, b, _, n1⟩ := pow_ok hc (by omega)
  obtain ⟨b2, n2⟩ := nw_r b (by omega)
  refine ⟨b2, nr_mono (nr_trans n2 (nr_trans n1 (ph_one n h))) ?_⟩
  rw [show two (1 + 1 + 1) = 8 from rfl, show two (1 + 1) = 4 from rfl, two_num 22 4194304 rfl, two_num 47 140737488355328 rfl]
  grind
theorem part_near (m a b : Int) (h : (17179869184 * m - a).natAbs ≤ 9600000000000000) : nr ((m : Rat) / 17179869184) ((a : Rat) / (17179869184 * 17179869184)) (1 / 24576) := by
  have h1 : 17179869184 * m - a ≤ 9600000000000000 := by omega
  have h2 : a - 17179869184 * m ≤ 9600000000000000 := by omega
  have a1 := Rat.intCast_le_intCast.2 h1
  have a2 := Rat.intCast_le_intCast.2 h2
  push_cast at a1 a2
  unfold nr
  constructor <;> grind
/-- The phase of a sum is nearly the product. -/
theorem ph_add (n m : Int) (h1 : n.natAbs ≤ 524288) (h2 : m.natAbs ≤ 524288) (h3 : (n + m).natAbs ≤ 524288) :
    nr (r32 (phz (n + m)).1) (r32 (phz n).1 * r32 (phz m).1 - r32 (phz n).2 * r32 (phz m).2) (1 / 24576) ∧ nr (r32 (phz (n + m)).2) (r32 (phz n).1 * r32 (phz m).2 + r32 (phz n).2 * r32 (phz m).1) (1 / 24576) := by
  obtain ⟨_, a1, a2⟩ := ph_r n h1
  obtain ⟨_, b1, b2⟩ := ph_r m h2
  obtain ⟨_, c1, c2⟩ := ph_r (n + m) h3
  obtain ⟨d1, d2⟩ := nb_parts (phi_add n m) (by omega)
  unfold dd phMath.sc gs gm at d1 d2
  rw [MM_is] at d1 d2
  dsimp only at d1 d2
  have p1 := part_near _ _ 0 (Nat.le_trans d1 (by decide))
  have p2 := part_near _ _ 0 (Nat.le_trans d2 (by decide))
  rw [a1, a2, b1, b2, c1, c2]
  push_cast at p1 p2
  unfold nr at *
  constructor
  · constructor <;> grind
  · constructor <;> grind
theorem ph_mul (n m : Int) (h1 : n.natAbs ≤ 524288) (h2 : m.natAbs ≤ 524288) (h3 : (n + m).natAbs ≤ 524288) :
    Cb (mulw (phz n) (phz m)) 3 ∧ MulOk (phz n) (phz m) ∧ nr (r32 (phz (n + m)).1) (r32 (mulw (phz n) (phz m)).1) (1 / 8192) ∧ nr (r32 (phz (n + m)).2) (r32 (mulw (phz n) (phz m)).2) (1 / 8192) := by
  obtain ⟨ca, _, _⟩ := ph_r n h1
  obtain ⟨cb, _, _⟩ := ph_r m h2
  obtain ⟨mo, mc⟩ := mul_ok ca cb (by omega)
  obtain ⟨q1, q2⟩ := mul_near ca cb (by omega)
  obtain ⟨p1, p2⟩ := ph_add n m h1 h2 h3
  rw [show two (1 + 1 + 1) = 8 from rfl, two_num 20 1048576 rfl] at q1 q2
  refine ⟨mc, mo, ?_, ?_⟩
  · unfold nr at *; grind
  · unfold nr at *; grind

/-! ## quarters -/
def ipow (t : Int) : G := if t % 4 = 0 then (1, 0) else if t % 4 = 1 then (0, 1) else if t % 4 = 2 then (-1, 0) else (0, -1)
theorem ipow_mul (a b : Int) : gm (ipow a) (ipow b) = ipow (a + b) := by
  have ha : a % 4 = 0 ∨ a % 4 = 1 ∨ a % 4 = 2 ∨ a % 4 = 3 := by omega
  have hb : b % 4 = 0 ∨ b % 4 = 1 ∨ b % 4 = 2 ∨ b % 4 = 3 := by omega
  have hc : (a + b) % 4 = (a % 4 + b % 4) % 4 := by omega
  unfold ipow
  rw [hc]
  rcases ha with h | h | h | h <;> rcases hb with h' | h' | h' | h' <;> rw [h, h'] <;> rfl
theorem ipow_N (a : Int) : gN (ipow a) ≤ 1 := by
  unfold ipow
  split
  · decide
  · split
    · decide
    · split <;> decide
theorem four_is : ∀ q < 4, phC (1024 * q) = (17179869184 * (ipow (q : Int)).1, 17179869184 * (ipow (q : Int)).2) := by decide +kernel
theorem s32_of {x : Nat} {k : Int} (hf : FinW single x) (h : V single x = 17179869184 * k * 2 ^ 115) : S32 x k := by
  refine ⟨hf, ?_⟩
  rw [h, show (149 : Nat) = 34 + 115 from rfl, Int.pow_add, ← Int.mul_assoc, Int.mul_comm 17179869184 k]
  rfl
theorem quarter (t : Int) (h : (1024 * t).natAbs ≤ 524288) : Gi (phz (1024 * t)) (ipow t) := by
  obtain ⟨f1, f2⟩ := phz_fin _ h
  obtain ⟨v1, v2⟩ := phz_phi _ h
  have hq := four_is (t % 4).toNat (by omega)
  have e1 : phi (1024 * t) = phC (1024 * (t % 4).toNat) := by
    unfold phi
    rw [show (1024 * t % 4096).toNat = 1024 * (t % 4).toNat by omega]
  have e2 : ipow (((t % 4).toNat : Nat) : Int) = ipow t := by
    unfold ipow
    rw [show (((t % 4).toNat : Nat) : Int) % 4 = t % 4 by omega]
  rw [e2] at hq
  rw [e1, hq] at v1 v2
  exact ⟨s32_of f1 v1, s32_of f2 v2⟩
theorem ipow_word {x y : Nat × Nat} {a b : Int} (hx : Gi x (ipow a)) (hy : Gi y (ipow b)) : MulOk x y ∧ Gi (mulw x y) (ipow (a + b)) := by
  have h1 := ipow_N a
  have h2 := ipow_N b
  have h3 : gN (ipow a) * gN (ipow b) ≤ 1 * 1 := Nat.mul_le_mul h1 h2
  obtain ⟨m, g⟩ := mul_g hx hy (by omega) (by omega) (by omega)
  rw [ipow_mul] at g
  exact ⟨m, g⟩
theorem ipow_eq {x y : Nat × Nat} {a : Int} (hx : Gi x (ipow a)) (hy : Gi y (ipow a)) : (FloatKind.f32.format.order x.1 y.1 == some .eq) = true ∧ (FloatKind.f32.format.order x.2 y.2 == some .eq) = true := by
  rw [order_s hx.1 hy.1, order_s hx.2 hy.2]
  simp
theorem w_one : Gi (1065353216, 0) (ipow 0) := Gi.one
theorem w_i : Gi (0, 1065353216) (ipow 1) := ⟨S32.zero, S32.one⟩
theorem w_neg : Gi (3212836864, 0) (ipow 2) := ⟨⟨by unfold values.FinW; decide +kernel, by decide +kernel⟩, S32.zero⟩

end Go.Proofs.Ytkjmlpdbnnmlhab.steerR
