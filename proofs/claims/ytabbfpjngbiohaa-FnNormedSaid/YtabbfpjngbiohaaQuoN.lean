/- The quotient of two numbers of 32 bits above 0 is near to the exact one. -/
import Derived.Test.YtabbfpjngbiohaaRows
import Derived.Test.YtabbfpjngbiohaaSlc
import Derived.Test.YtabbfpjngbiohaaR8
import Derived.Test.YtabbfpjngbiohaaSrc
import Derived.Test.YtabbfpjngbiohaaFloats
import Derived.Test.YtabbfpjngbiohaaRound
import Derived.Test.YtabbfpjngbiohaaValues
import Derived.Test.YtabbfpjngbiohaaConv
import Derived.Test.YtabbfpjngbiohaaFWalk
import Derived.Test.YtabbfpjngbiohaaFinWalk
import Derived.Test.YtabbfpjngbiohaaFloat2
import Derived.Test.YtabbfpjngbiohaaFloat3
import Derived.Test.YtabbfpjngbiohaaPhase
import Derived.Test.YtabbfpjngbiohaaSine
import Derived.Test.YtabbfpjngbiohaaPhasor
import Derived.Test.YtabbfpjngbiohaaListC
import Derived.Test.YtabbfpjngbiohaaSteerNum
import Derived.Test.YtabbfpjngbiohaaSineIn
import Derived.Test.YtabbfpjngbiohaaPolyNum
import Derived.Test.YtabbfpjngbiohaaPolyW
import Derived.Test.YtabbfpjngbiohaaPoly1
import Derived.Test.YtabbfpjngbiohaaGPoly
import Derived.Test.YtabbfpjngbiohaaGNum
import Derived.Test.YtabbfpjngbiohaaRq
import Derived.Test.YtabbfpjngbiohaaRoot
import Derived.Test.YtabbfpjngbiohaaPowW
import Derived.Test.YtabbfpjngbiohaaRootN
import Derived.WalkKit
import Derived.ProofKit
import Derived.OpenShut
import Derived.ShutString
import Derived.ChangeOld
import Derived.Below
import Derived.Lib.Hide
import Derived.BigQuiet
import Derived.Deep.QuietTactic
import Derived.WalkLawsBesides
import Derived.Outline
import Derived.Deep.QuietTactic
import Derived.BigQuiet
import Derived.Deep.LoopGhost
import Derived.Laws.ComplexArith
namespace Go.Proofs.Ytabbfpjngbiohaa.quoN
open Go.ChangeShapes Go.WideShapes Go.ChangeAt Go.RowKit
open Go.ChangeMaps (open_string shut_string)
set_option linter.unusedVariables false
open Go Ieee Go.RowKit
open Go.Proofs.Ytabbfpjngbiohaa.slc Go.Proofs.Ytabbfpjngbiohaa.floats Go.Proofs.Ytabbfpjngbiohaa.round Go.Proofs.Ytabbfpjngbiohaa.values Go.Proofs.Ytabbfpjngbiohaa.conv Go.Proofs.Ytabbfpjngbiohaa.fWalk Go.Proofs.Ytabbfpjngbiohaa.float2 Go.Proofs.Ytabbfpjngbiohaa.float3 Go.Proofs.Ytabbfpjngbiohaa.phase Go.Proofs.Ytabbfpjngbiohaa.sine Go.Proofs.Ytabbfpjngbiohaa.phasor Go.Proofs.Ytabbfpjngbiohaa.listC Go.Proofs.Ytabbfpjngbiohaa.sineIn Go.Proofs.Ytabbfpjngbiohaa.polyNum Go.Proofs.Ytabbfpjngbiohaa.polyW Go.Proofs.Ytabbfpjngbiohaa.poly1 Go.Proofs.Ytabbfpjngbiohaa.gPoly Go.Proofs.Ytabbfpjngbiohaa.gNum Go.Proofs.Ytabbfpjngbiohaa.rq Go.Proofs.Ytabbfpjngbiohaa.root Go.Proofs.Ytabbfpjngbiohaa.powW Go.Proofs.Ytabbfpjngbiohaa.rootN

theorem quo_mag {m n : Nat} (hm : m ≠ 0) (hn : n ≠ 0) : n * 2 ^ 24 ≤ m * 2 ^ (25 + n.log2 - m.log2) := by
  have hmlog : 2 ^ m.log2 ≤ m := Nat.log2_self_le hm
  have hnlog : n < 2 ^ (n.log2 + 1) := Nat.lt_log2_self
  calc n * 2 ^ 24 ≤ 2 ^ (n.log2 + 1) * 2 ^ 24 := Nat.mul_le_mul_right _ (Nat.le_of_lt hnlog)
    _ = 2 ^ (n.log2 + 25) := by rw [← Nat.pow_add]
    _ ≤ 2 ^ (m.log2 + (25 + n.log2 - m.log2)) := Nat.pow_le_pow_right (by omega) (by omega)
    _ = 2 ^ m.log2 * 2 ^ (25 + n.log2 - m.log2) := Nat.pow_add _ _ _
    _ ≤ m * 2 ^ (25 + n.log2 - m.log2) := Nat.mul_le_mul_right _ hmlog
/-- Twice the quotient, with the bit that says whether something is left, against the exact one. -/
theorem quo_near {M n : Nat} (hn : n ≠ 0) (h : n * 2 ^ 24 ≤ M) : (2 * (M / n) + (M % n != 0).toNat) * n * 2 ^ 24 ≤ 2 * M * 2 ^ 24 + 2 * M ∧ 2 * M * 2 ^ 24 ≤ (2 * (M / n) + (M % n != 0).toNat) * n * 2 ^ 24 + 2 * M ∧ (2 * (M / n) + (M % n != 0).toNat) * n ≤ 4 * M := by
  have e := Nat.div_add_mod M n
  have l := Nat.mod_lt M (Nat.pos_of_ne_zero hn)
  rw [Nat.mul_comm] at e
  have e2 : (2 * (M / n) + (M % n != 0).toNat) * n = 2 * (M / n * n) + (M % n != 0).toNat * n := by rw [Nat.add_mul, Nat.mul_assoc]
  rw [e2]
  generalize M / n * n = q at *
  by_cases z : M % n = 0
  · have : (M % n != 0).toNat = 0 := by simp [z]
    rw [this, Nat.zero_mul]
    omega
  · have : (M % n != 0).toNat = 1 := by simp [z]
    rw [this, Nat.one_mul]
    omega
theorem near_div2 {u v P : Rat} (hP : 0 ≤ P) (h1 : v * 16777216 ≤ u * 16777216 + v) (h2 : u * 16777216 ≤ v * 16777216 + v) : nr (u * P) (v * P) (v * P / 16777216) := by
  have a := Rat.mul_le_mul_of_nonneg_right h1 hP
  have b := Rat.mul_le_mul_of_nonneg_right h2 hP
  unfold nr
  generalize e1 : u * P = U at *
  generalize e2 : v * P = W at *
  have a' : W * 16777216 ≤ U * 16777216 + W := by subst e1 e2; grind
  have b' : U * 16777216 ≤ W * 16777216 + W := by subst e1 e2; grind
  constructor <;> grind
theorem pos_read {f : Format} {x m e : Nat} (h0 : 0 < V f x) (vx : m * 2 ^ e = mv f (rg f x)) : m ≠ 0 ∧ sgn f x = false ∧ V f x = ((m * 2 ^ e : Nat) : Int) := by
  have hV : V f x = sg (sgn f x) (mv f (rg f x)) := rfl
  have hs : sgn f x = false := by
    cases hs : sgn f x with
    | false => rfl
    | true =>
      exfalso
      rw [hV, hs, ← vx] at h0
      simp only [sg, if_true] at h0
      omega
  have hm : m ≠ 0 := by
    intro q
    subst q
    rw [hV, hs, ← vx, Nat.zero_mul] at h0
    simp [sg] at h0
  exact ⟨hm, hs, by rw [hV, hs, ← vx]; rfl⟩
theorem quo32 {x y e : Nat} (hx : FinW single x) (hy : FinW single y) (x0 : 0 < V single x) (y0 : 0 < V single y) (he : e ≤ 90) (hb : V single x * 2 ≤ V single y * 2 ^ e) :
    ∃ r, floatBits .quo .f32 x y = some r ∧ Bs r e ∧ ∃ z : Rat, 0 ≤ z ∧ nr (r32 r) z (two e / two 22) ∧ nr (z * r32 y) (r32 x) (r32 x / 16777216) := by
  obtain ⟨m, i, ex, vx⟩ := read_fin single hx
  obtain ⟨n, j, ey, vy⟩ := read_fin single hy
  obtain ⟨hm, sx, vx'⟩ := pos_read x0 vx
  obtain ⟨hn, sy, vy'⟩ := pos_read y0 vy
  rw [vx', vy', gNum.pc] at hb
  have hb' : m * 2 ^ i * 2 ≤ n * 2 ^ j * 2 ^ e := by exact_mod_cast hb
  have hmo := quo_mag hm hn
  generalize hM : 25 + n.log2 - m.log2 = more at *
  have hq : single.div x y = some (single.nearest false (2 * ((m <<< more) / n) + ((m <<< more) % n != 0).toNat) (single.leastPlace + i - (single.leastPlace + j) - more - 1)) := by
    unfold Format.div
    rw [ex, ey, sx, sy]
    unfold Datum.quotient
    dsimp only
    rw [if_neg hn, show single.fractionBits + 2 = 25 from rfl, hM]
    rfl
  rw [Nat.shiftLeft_eq] at hq
  obtain ⟨n1, n2, n3⟩ := quo_near hn hmo
  generalize 2 * (m * 2 ^ more / n) + (m * 2 ^ more % n != 0).toNat = mag at *
  have hmag : mag * 2 ^ (i + 149) ≤ 2 ^ (149 + e) * 2 ^ (j + more + 1) := by
    refine Nat.le_of_mul_le_mul_right ?_ (Nat.pos_of_ne_zero hn)
    calc mag * 2 ^ (i + 149) * n = mag * n * 2 ^ i * 2 ^ 149 := by rw [Nat.pow_add]; generalize 2 ^ 149 = T; generalize 2 ^ i = I; grind
      _ ≤ 4 * (m * 2 ^ more) * 2 ^ i * 2 ^ 149 := Nat.mul_le_mul_right _ (Nat.mul_le_mul_right _ n3)
      _ = m * 2 ^ i * 2 * (2 * 2 ^ more * 2 ^ 149) := by generalize 2 ^ 149 = T; generalize 2 ^ i = I; generalize 2 ^ more = M; grind
      _ ≤ n * 2 ^ j * 2 ^ e * (2 * 2 ^ more * 2 ^ 149) := Nat.mul_le_mul_right _ hb'
      _ = 2 ^ (149 + e) * 2 ^ (j + more + 1) * n := by
        rw [Nat.pow_add, Nat.pow_add, Nat.pow_add]
        generalize 2 ^ 149 = T; generalize 2 ^ j = J; generalize 2 ^ more = M; generalize 2 ^ e = E
        grind
  have hh := (nearest_rnd single false mag (single.leastPlace + i - (single.leastPlace + j) - more - 1) (p := i + 149) (d := j + more + 1) (by rw [lp32]; omega) (hi := ps e) (ps_inf (by omega)) (by rw [mv_ps]; exact hmag)).1
  obtain ⟨b1, b2⟩ := near32 (e := e) hh (by
    rw [sg_abs]
    refine Nat.le_trans hmag (Nat.le_of_eq ?_)
    rw [← Nat.pow_add]
    congr 1
    omega) he
  refine ⟨_, hq, b1, _, ?_, b2, ?_⟩
  · rw [sg_false, Rat.div_def]
    exact Rat.mul_nonneg (by exact_mod_cast Nat.zero_le _) (Rat.le_of_lt (Rat.inv_pos.2 (Rat.mul_pos (two_pos _) (two_pos _))))
  · have hT := two_pos 149
    have hJ := two_pos j
    have hI := two_pos i
    have hMo := two_pos (more + 1)
    have k1 : 0 ≤ two i * (two 149 * two (more + 1))⁻¹ := Rat.mul_nonneg (Rat.le_of_lt hI) (Rat.le_of_lt (Rat.inv_pos.2 (Rat.mul_pos hT hMo)))
    have eW : ((2 * (m * 2 ^ more) : Nat) : Rat) = (m : Rat) * two (more + 1) := by
      unfold two
      rw [Nat.pow_succ]
      push_cast
      generalize (2 : Rat) ^ more = M
      grind
    have z := near_div2 (u := ((mag * n : Nat) : Rat)) (v := ((2 * (m * 2 ^ more) : Nat) : Rat)) k1 (by
      have := n2
      rw [show (2 : Nat) ^ 24 = 16777216 from rfl] at this
      generalize 2 * (m * 2 ^ more) = W at *
      generalize mag * n = U at *
      exact_mod_cast this) (by
      have := n1
      rw [show (2 : Nat) ^ 24 = 16777216 from rfl] at this
      generalize 2 * (m * 2 ^ more) = W at *
      generalize mag * n = U at *
      exact_mod_cast this)
    have eX : r32 x = ((2 * (m * 2 ^ more) : Nat) : Rat) * (two i * (two 149 * two (more + 1))⁻¹) := by
      rw [eW]
      unfold r32
      rw [vx', Rat.intCast_natCast, show ((m * 2 ^ i : Nat) : Rat) = (m : Rat) * two i by unfold two; push_cast; rfl]
      generalize two 149 = T at *
      generalize two i = I at *
      generalize two (more + 1) = M at *
      grind
    have eY : ((sg false (mag * 2 ^ (i + 149)) : Int) : Rat) / (two 149 * two (j + more + 1)) * r32 y = ((mag * n : Nat) : Rat) * (two i * (two 149 * two (more + 1))⁻¹) := by
      unfold r32
      rw [sg_false, vy', Rat.intCast_natCast, Rat.intCast_natCast, show ((n * 2 ^ j : Nat) : Rat) = (n : Rat) * two j by unfold two; push_cast; rfl, show ((mag * 2 ^ (i + 149) : Nat) : Rat) = (mag : Rat) * (two i * two 149) by rw [← two_add]; unfold two; push_cast; rfl, show ((mag * n : Nat) : Rat) = (mag : Rat) * (n : Rat) by push_cast; rfl, show j + more + 1 = j + (more + 1) by omega, two_add j]
      generalize two 149 = T at *
      generalize two i = I at *
      generalize two j = J at *
      generalize two (more + 1) = M at *
      grind
    rw [eX, eY]
    exact z

end Go.Proofs.Ytabbfpjngbiohaa.quoN
