/- Phases of a wave as fractions: their length is nearly 1, that of a sum is nearly the product, and quarters are exact. -/
import Derived.Test.YtabbfpjngbiohaaRows
import Derived.Test.YtabbfpjngbiohaaSlc
import Derived.Test.YtabbfpjngbiohaaSmall
import Derived.Test.YtabbfpjngbiohaaOpens
import Derived.Test.YtabbfpjngbiohaaFloats
import Derived.Test.YtabbfpjngbiohaaRound
import Derived.Test.YtabbfpjngbiohaaValues
import Derived.Test.YtabbfpjngbiohaaConv
import Derived.Test.YtabbfpjngbiohaaFWalk
import Derived.Test.YtabbfpjngbiohaaFinWalk
import Derived.Test.YtabbfpjngbiohaaRoot
import Derived.Test.YtabbfpjngbiohaaFloat2
import Derived.Test.YtabbfpjngbiohaaFloat3
import Derived.Test.YtabbfpjngbiohaaPhase
import Derived.Test.YtabbfpjngbiohaaSine
import Derived.Test.YtabbfpjngbiohaaPhasor
import Derived.Test.YtabbfpjngbiohaaListC
import Derived.Test.YtabbfpjngbiohaaSteerNum
import Derived.Test.YtabbfpjngbiohaaSineIn
import Derived.Test.YtabbfpjngbiohaaPolyNum
import Derived.Test.YtabbfpjngbiohaaPolyW
import Derived.Test.YtabbfpjngbiohaaGPoly
import Derived.Test.YtabbfpjngbiohaaGNum
import Derived.Test.YtabbfpjngbiohaaRq
import Derived.Test.YtabbfpjngbiohaaPowW
import Derived.Test.YtabbfpjngbiohaaTwinNum
import Derived.Test.YtabbfpjngbiohaaPhDef
import Derived.Test.YtabbfpjngbiohaaPhTabA
import Derived.Test.YtabbfpjngbiohaaPhTabB
import Derived.Test.YtabbfpjngbiohaaPhTabC
import Derived.Test.YtabbfpjngbiohaaPhTabD
import Derived.Test.YtabbfpjngbiohaaPhVal
import Derived.Test.YtabbfpjngbiohaaPhMath
import Derived.Test.YtabbfpjngbiohaaPhPhi
import Derived.WalkKit
import Derived.ProofKit
import Derived.OpenShut
import Derived.ShutString
import Derived.ChangeOld
import Derived.Below
import Derived.Lib.Hide
import Derived.BigQuiet
import Derived.Deep.QuietTactic
import Derived.WalkLawsBesides
import Derived.Outline
namespace Go.Proofs.Ytabbfpjngbiohaa.steerR
open Go.ChangeShapes Go.WideShapes Go.ChangeAt Go.RowKit
open Go.ChangeMaps (open_string shut_string)
set_option linter.unusedVariables false
open Go Ieee Go.RowKit
open Go.Proofs.Ytabbfpjngbiohaa.floats Go.Proofs.Ytabbfpjngbiohaa.round Go.Proofs.Ytabbfpjngbiohaa.values Go.Proofs.Ytabbfpjngbiohaa.conv Go.Proofs.Ytabbfpjngbiohaa.fWalk Go.Proofs.Ytabbfpjngbiohaa.float2 Go.Proofs.Ytabbfpjngbiohaa.float3 Go.Proofs.Ytabbfpjngbiohaa.phase Go.Proofs.Ytabbfpjngbiohaa.sine Go.Proofs.Ytabbfpjngbiohaa.phasor Go.Proofs.Ytabbfpjngbiohaa.listC Go.Proofs.Ytabbfpjngbiohaa.steerNum Go.Proofs.Ytabbfpjngbiohaa.sineIn Go.Proofs.Ytabbfpjngbiohaa.polyNum Go.Proofs.Ytabbfpjngbiohaa.gPoly Go.Proofs.Ytabbfpjngbiohaa.gNum Go.Proofs.Ytabbfpjngbiohaa.rq Go.Proofs.Ytabbfpjngbiohaa.powW Go.Proofs.Ytabbfpjngbiohaa.phMath Go.Proofs.Ytabbfpjngbiohaa.phPhi

theorem MM_is : MM = 17179869184 := rfl
theorem two34 : two 34 = 17179869184 := rfl
theorem to_r {x : Nat} {k : Int} (h : V single x = k * 2 ^ 115) : r32 x = (k : Rat) / 17179869184 := by
  unfold r32
  rw [h, cast_pow, show two 149 = two 34 * two 115 from by rw [← two_add], two34]
  have := two_pos 115
  grind
theorem to_bs {x : Nat} {k : Int} (hf : FinW single x) (h : V single x = k * 2 ^ 115) (hk : k.natAbs ≤ 17179870208) : Bs x 1 := by
  refine ⟨hf, ?_⟩
  rw [h, gNum.k_abs]
  calc k.natAbs * 2 ^ 115 ≤ 2 ^ 35 * 2 ^ 115 := Nat.mul_le_mul_right _ (by omega)
    _ = 2 ^ (149 + 1) := by rw [← Nat.pow_add]
/-- A phase, as fractions. -/
theorem ph_r (n : Int) (h : n.natAbs ≤ 524288) : Cb (phz n) 1 ∧ r32 (phz n).1 = ((phi n).1 : Rat) / 17179869184 ∧ r32 (phz n).2 = ((phi n).2 : Rat) / 17179869184 := by
  obtain ⟨f1, f2⟩ := phz_fin n h
  obtain ⟨v1, v2⟩ := phz_phi n h
  have hp := nb_parts (phi_nb n).1 (by rw [MM_is]; omega)
  rw [MM_is] at hp
  exact ⟨⟨to_bs f1 v1 (by omega), to_bs f2 v2 (by omega)⟩, to_r v1, to_r v2⟩
theorem cast_nrm (g : G) : ((nrm g : Int) : Rat) = (g.1 : Rat) * g.1 + (g.2 : Rat) * g.2 := by unfold nrm; push_cast; rfl
theorem ph_one (n : Int) (h : n.natAbs ≤ 524288) : nr (r32 (phz n).1 * r32 (phz n).1 + r32 (phz n).2 * r32 (phz n).2) 1 (1 / 4194304) := by
  obtain ⟨_, e1, e2⟩ := ph_r n h
  obtain ⟨h1, h2⟩ := phi_nb n
  unfold phMath.nb at h1
  rw [MM_is] at h1 h2
  have a1 := Rat.intCast_le_intCast.2 h1
  have a2 := Rat.intCast_le_intCast.2 h2
  rw [cast_nrm] at a1 a2
  rw [e1, e2]
  push_cast at a1 a2
  unfold nr
  constructor <;> grind
theorem ph_pow (n : Int) (h : n.natAbs ≤ 524288) : Bs (nw (pwW (phz n))) 3 ∧ nr (r32 (nw (pwW (phz n)))) 1 (1 / 131072) := by
  obtain ⟨hc, _, _⟩ := ph_r n h
  obtain ⟨_, b, _, n1⟩ := pow_ok hc (by omega)
  obtain ⟨b2, n2⟩ := nw_r b (by omega)
  refine ⟨b2, nr_mono (nr_trans n2 (nr_trans n1 (ph_one n h))) ?_⟩
  rw [show two (1 + 1 + 1) = 8 from rfl, show two (1 + 1) = 4 from rfl, two_num 22 4194304 rfl, two_num 47 140737488355328 rfl]
  grind
theorem part_near (m a b : Int) (h : (17179869184 * m - a).natAbs ≤ 9600000000000000) : nr ((m : Rat) / 17179869184) ((a : Rat) / (17179869184 * 17179869184)) (1 / 24576) := by
  have h1 : 17179869184 * m - a ≤ 9600000000000000 := by omega
  have h2 : a - 17179869184 * m ≤ 9600000000000000 := by omega
  have a1 := Rat.intCast_le_intCast.2 h1
  have a2 := Rat.intCast_le_intCast.2 h2
  push_cast at a1 a2
  unfold nr
  constructor <;> grind
/-- The phase of a sum is nearly the product. -/
theorem ph_add (n m : Int) (h1 : n.natAbs ≤ 524288) (h2 : m.natAbs ≤ 524288) (h3 : (n + m).natAbs ≤ 524288) :
    nr (r32 (phz (n + m)).1) (r32 (phz n).1 * r32 (phz m).1 - r32 (phz n).2 * r32 (phz m).2) (1 / 24576) ∧ nr (r32 (phz (n + m)).2) (r32 (phz n).1 * r32 (phz m).2 + r32 (phz n).2 * r32 (phz m).1) (1 / 24576) := by
  obtain ⟨_, a1, a2⟩ := ph_r n h1
  obtain ⟨_, b1, b2⟩ := ph_r m h2
  obtain ⟨_, c1, c2⟩ := ph_r (n + m) h3
  obtain ⟨d1, d2⟩ := nb_parts (phi_add n m) (by omega)
  unfold dd phMath.sc gs gm at d1 d2
  rw [MM_is] at d1 d2
  dsimp only at d1 d2
  have p1 := part_near _ _ 0 (Nat.le_trans d1 (by decide))
  have p2 := part_near _ _ 0 (Nat.le_trans d2 (by decide))
  rw [a1, a2, b1, b2, c1, c2]
  push_cast at p1 p2
  unfold nr at *
  constructor
  · constructor <;> grind
  · constructor <;> grind
theorem ph_mul (n m : Int) (h1 : n.natAbs ≤ 524288) (h2 : m.natAbs ≤ 524288) (h3 : (n + m).natAbs ≤ 524288) :
    Cb (mulw (phz n) (phz m)) 3 ∧ MulOk (phz n) (phz m) ∧ nr (r32 (phz (n + m)).1) (r32 (mulw (phz n) (phz m)).1) (1 / 8192) ∧ nr (r32 (phz (n + m)).2) (r32 (mulw (phz n) (phz m)).2) (1 / 8192) := by
  obtain ⟨ca, _, _⟩ := ph_r n h1
  obtain ⟨cb, _, _⟩ := ph_r m h2
  obtain ⟨mo, mc⟩ := mul_ok ca cb (by omega)
  obtain ⟨q1, q2⟩ := mul_near ca cb (by omega)
  obtain ⟨p1, p2⟩ := ph_add n m h1 h2 h3
  rw [show two (1 + 1 + 1) = 8 from rfl, two_num 20 1048576 rfl] at q1 q2
  refine ⟨mc, mo, ?_, ?_⟩
  · unfold nr at *; grind
  · unfold nr at *; grind

/-! ## quarters -/
def ipow (t : Int) : G := if t % 4 = 0 then (1, 0) else if t % 4 = 1 then (0, 1) else if t % 4 = 2 then (-1, 0) else (0, -1)
theorem ipow_mul (a b : Int) : gm (ipow a) (ipow b) = ipow (a + b) := by
  have ha : a % 4 = 0 ∨ a % 4 = 1 ∨ a % 4 = 2 ∨ a % 4 = 3 := by omega
  have hb : b % 4 = 0 ∨ b % 4 = 1 ∨ b % 4 = 2 ∨ b % 4 = 3 := by omega
  have hc : (a + b) % 4 = (a % 4 + b % 4) % 4 := by omega
  unfold ipow
  rw [hc]
  rcases ha with h | h | h | h <;> rcases hb with h' | h' | h' | h' <;> rw [h, h'] <;> rfl
theorem ipow_N (a : Int) : gN (ipow a) ≤ 1 := by
  unfold ipow
  split
  · decide
  · split
    · decide
    · split <;> decide
theorem four_is : ∀ q < 4, phC (1024 * q) = (17179869184 * (ipow (q : Int)).1, 17179869184 * (ipow (q : Int)).2) := by decide +kernel
theorem s32_of {x : Nat} {k : Int} (hf : FinW single x) (h : V single x = 17179869184 * k * 2 ^ 115) : S32 x k := by
  refine ⟨hf, ?_⟩
  rw [h, show (149 : Nat) = 34 + 115 from rfl, Int.pow_add, ← Int.mul_assoc, Int.mul_comm 17179869184 k]
  rfl
theorem quarter (t : Int) (h : (1024 * t).natAbs ≤ 524288) : Gi (phz (1024 * t)) (ipow t) := by
  obtain ⟨f1, f2⟩ := phz_fin _ h
  obtain ⟨v1, v2⟩ := phz_phi _ h
  have hq := four_is (t % 4).toNat (by omega)
  have e1 : phi (1024 * t) = phC (1024 * (t % 4).toNat) := by
    unfold phi
    rw [show (1024 * t % 4096).toNat = 1024 * (t % 4).toNat by omega]
  have e2 : ipow (((t % 4).toNat : Nat) : Int) = ipow t := by
    unfold ipow
    rw [show (((t % 4).toNat : Nat) : Int) % 4 = t % 4 by omega]
  rw [e2] at hq
  rw [e1, hq] at v1 v2
  exact ⟨s32_of f1 v1, s32_of f2 v2⟩
theorem ipow_word {x y : Nat × Nat} {a b : Int} (hx : Gi x (ipow a)) (hy : Gi y (ipow b)) : MulOk x y ∧ Gi (mulw x y) (ipow (a + b)) := by
  have h1 := ipow_N a
  have h2 := ipow_N b
  have h3 : gN (ipow a) * gN (ipow b) ≤ 1 * 1 := Nat.mul_le_mul h1 h2
  obtain ⟨m, g⟩ := mul_g hx hy (by omega) (by omega) (by omega)
  rw [ipow_mul] at g
  exact ⟨m, g⟩
theorem ipow_eq {x y : Nat × Nat} {a : Int} (hx : Gi x (ipow a)) (hy : Gi y (ipow a)) : (FloatKind.f32.format.order x.1 y.1 == some .eq) = true ∧ (FloatKind.f32.format.order x.2 y.2 == some .eq) = true := by
  rw [order_s hx.1 hy.1, order_s hx.2 hy.2]
  simp
theorem w_one : Gi (1065353216, 0) (ipow 0) := Gi.one
theorem w_i : Gi (0, 1065353216) (ipow 1) := ⟨S32.zero, S32.one⟩
theorem w_neg : Gi (3212836864, 0) (ipow 2) := ⟨⟨by unfold values.FinW; decide +kernel, by decide +kernel⟩, S32.zero⟩

end Go.Proofs.Ytabbfpjngbiohaa.steerR
