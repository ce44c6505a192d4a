/- The decimal digits of a number, taken one by one from behind. -/
import Derived.Lib.ItoaNum
namespace Go.Proofs.YthlfclnfkgiddaaDoor.decNum
set_option linter.unusedVariables false
open Go Go.Lib

/-- The digits that are left (r), and those that are taken (l), of u. -/
def DInv (u r : Nat) (l : List UInt8) : Prop := (l = [] ∧ r = u) ∨ (l ≠ [] ∧ decDigits u = (if r = 0 then [] else decDigits r) ++ l)
theorem dd_step (r : Nat) : decDigits r = (if r / 10 = 0 then [] else decDigits (r / 10)) ++ [UInt8.ofNat (48 + r % 10)] := by
  conv => lhs; unfold decDigits
  by_cases h : r < 10
  · rw [dif_pos h, if_pos (by omega), Nat.mod_eq_of_lt h]; rfl
  · rw [dif_neg h, if_neg (by omega)]
theorem DInv.step {u r : Nat} {l : List UInt8} (h : DInv u r l) (hg : l = [] ∨ r ≠ 0) : DInv u (r / 10) (UInt8.ofNat (48 + r % 10) :: l) := by
  right
  refine ⟨by simp, ?_⟩
  rcases h with ⟨rfl, rfl⟩ | ⟨hl, h⟩
  · exact dd_step r
  · have hr : r ≠ 0 := by
      rcases hg with hg | hg
      · exact absurd hg hl
      · exact hg
    rw [h, if_neg hr, dd_step r, List.append_assoc]
    rfl
theorem DInv.done {u : Nat} {l : List UInt8} (h : DInv u 0 l) (hl : l ≠ []) : decDigits u = l := by
  rcases h with ⟨h, _⟩ | ⟨_, h⟩
  · exact absurd h hl
  · rw [h]; rfl
/-- How long it can become. -/
def DLen (r : Nat) (l : List UInt8) : Prop := l.length ≤ 20 ∧ r < 10 ^ (20 - l.length)
theorem DLen.step {r : Nat} {l : List UInt8} (h : DLen r l) (hg : l = [] ∨ r ≠ 0) (c : UInt8) : DLen (r / 10) (c :: l) ∧ l.length ≤ 19 := by
  obtain ⟨h1, h2⟩ := h
  have h3 : l.length ≤ 19 := by
    rcases hg with rfl | hg
    · simp
    · rcases Nat.lt_or_ge l.length 20 with h | h
      · omega
      · rw [show 20 - l.length = 0 from by omega] at h2
        simp at h2
        omega
  refine ⟨⟨by simp; omega, ?_⟩, h3⟩
  rw [show 20 - l.length = (20 - (c :: l).length) + 1 from by simp; omega, Nat.pow_succ] at h2
  exact Nat.div_lt_of_lt_mul (by rw [Nat.mul_comm]; exact h2)

/-- The rest of n, with its sign. -/
def sgR (n : Int) (r : Nat) : Int := if n < 0 then -(r : Int) else r
theorem sgR_zero (n : Int) (r : Nat) : sgR n r = 0 ↔ r = 0 := by unfold sgR; split <;> omega
theorem sgR_div (n : Int) (r : Nat) : (sgR n r).tdiv 10 = sgR n (r / 10) := by
  unfold sgR
  split
  · rw [Int.neg_tdiv, Int.tdiv_eq_ediv_of_nonneg (by omega)]; rfl
  · rw [Int.tdiv_eq_ediv_of_nonneg (by omega)]; rfl
theorem sgR_mod (n : Int) (r : Nat) : ((sgR n r).tmod 10).natAbs = r % 10 := by
  unfold sgR
  split
  · rw [Int.neg_tmod, Int.natAbs_neg, Int.tmod_eq_emod_of_nonneg (by omega)]; omega
  · rw [Int.tmod_eq_emod_of_nonneg (by omega)]; omega

end Go.Proofs.YthlfclnfkgiddaaDoor.decNum
