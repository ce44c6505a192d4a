/- The greatest number outside of a lobe is that of the two parts laid together. -/
import Derived.Test.YtjmgohlepglkoaaFloats
import Derived.Test.YtjmgohlepglkoaaRound
import Derived.Test.YtjmgohlepglkoaaValues
import Derived.Test.YtjmgohlepglkoaaConv
import Derived.Test.YtjmgohlepglkoaaCut
namespace Go.Proofs.Ytjmgohlepglkoaa.sideNum
set_option linter.unusedVariables false
open Go Ieee
open Go.Proofs.Ytjmgohlepglkoaa.floats Go.Proofs.Ytjmgohlepglkoaa.cut

/-- The index of the greatest of the first k numbers outside of lo to hi; -1: none. -/
def sdI (x : Nat → Nat) (lo hi : Nat) : Nat → Int
  | 0 => -1
  | k + 1 => if (k < lo ∨ hi < k) ∧ FloatKind.f32.format.order (x k) (x k) = some .eq ∧ (sdI x lo hi k < 0 ∨ FloatKind.f32.format.order (x k) (x (sdI x lo hi k).toNat) = some .gt) then (k : Int) else sdI x lo hi k
theorem sdI_succ (x : Nat → Nat) (lo hi k : Nat) : sdI x lo hi (k + 1) = if (k < lo ∨ hi < k) ∧ FloatKind.f32.format.order (x k) (x k) = some .eq ∧ (sdI x lo hi k < 0 ∨ FloatKind.f32.format.order (x k) (x (sdI x lo hi k).toNat) = some .gt) then (k : Int) else sdI x lo hi k := rfl
theorem sdI_bd (x : Nat → Nat) (lo hi k : Nat) : -1 ≤ sdI x lo hi k ∧ sdI x lo hi k < k := by
  induction k with
  | zero => unfold sdI; omega
  | succ k ih => rw [sdI_succ]; split <;> omega

/-- The parts outside of lo to hi, laid together. -/
def sdy (x : Nat → Nat) (lo hi : Nat) (j : Nat) : Nat := if j < lo then x j else x (j + (hi + 1 - lo))
def sdc (lo hi k : Nat) : Nat := if k ≤ lo then k else if k ≤ hi + 1 then lo else k - (hi + 1 - lo)
def Rel (x y : Nat → Nat) (s p : Int) : Prop := (s < 0 ∧ p < 0) ∨ (0 ≤ s ∧ 0 ≤ p ∧ y p.toNat = x s.toNat)
theorem sd_rel (x : Nat → Nat) (lo hi : Nat) (h : lo ≤ hi) (k : Nat) : Rel x (sdy x lo hi) (sdI x lo hi k) (pkI (sdy x lo hi) (sdc lo hi k)) := by
  induction k with
  | zero => left; simp [sdI, sdc, pkI]
  | succ k ih =>
    rw [sdI_succ]
    by_cases ho : k < lo ∨ hi < k
    · have hc : sdc lo hi (k + 1) = sdc lo hi k + 1 := by unfold sdc; split <;> split <;> (try split) <;> (try split) <;> omega
      have hy : sdy x lo hi (sdc lo hi k) = x k := by
        unfold sdy sdc
        rcases ho with ho | ho
        · rw [if_pos (show k ≤ lo by omega), if_pos ho]
        · rw [if_neg (show ¬ k ≤ lo by omega)]
          by_cases h2 : k ≤ hi + 1
          · rw [if_pos h2, if_neg (Nat.lt_irrefl _)]
            congr 1; omega
          · rw [if_neg h2, if_neg (show ¬ k - (hi + 1 - lo) < lo by omega)]
            congr 1; omega
      rw [hc, pkI_succ, hy]
      by_cases hq : FloatKind.f32.format.order (x k) (x k) = some .eq
      · rcases ih with ⟨a, b⟩ | ⟨a, b, c⟩
        · rw [if_pos ⟨ho, hq, .inl a⟩, if_pos ⟨hq, .inl b⟩]
          right
          refine ⟨by omega, by omega, ?_⟩
          simpa using hy
        · rw [c]
          by_cases hg : FloatKind.f32.format.order (x k) (x (sdI x lo hi k).toNat) = some .gt
          · rw [if_pos ⟨ho, hq, .inr hg⟩, if_pos ⟨hq, .inr hg⟩]
            right
            refine ⟨by omega, by omega, ?_⟩
            simpa using hy
          · rw [if_neg (by rintro ⟨_, _, h | h⟩; omega; exact hg h), if_neg (by rintro ⟨_, h | h⟩; omega; exact hg h)]
            exact .inr ⟨a, b, c⟩
      · rw [if_neg (fun h => hq h.2.1), if_neg (fun h => hq h.1)]
        exact ih
    · have hc : sdc lo hi (k + 1) = sdc lo hi k := by unfold sdc; split <;> split <;> (try split) <;> (try split) <;> omega
      rw [hc, if_neg (fun h => ho h.1)]
      exact ih
/-- What is returned. -/
def sdR (x : Nat → Nat) (lo hi n : Nat) : Nat × Bool := if 0 ≤ sdI x lo hi n then (x (sdI x lo hi n).toNat, true) else (0, false)
theorem sd_pk (x : Nat → Nat) (lo hi n : Nat) (h : lo ≤ hi) (hn : hi < n) (hn2 : n ≤ 129) :
    (0 ≤ sdI x lo hi n ∧ ∃ q : Nat, q < n - (hi + 1 - lo) ∧ pkR (sdy x lo hi) (n - (hi + 1 - lo)) = ((q : Int), true) ∧ sdy x lo hi q = x (sdI x lo hi n).toNat) ∨ (sdI x lo hi n < 0 ∧ pkR (sdy x lo hi) (n - (hi + 1 - lo)) = (0, false)) := by
  have hr := sd_rel x lo hi h n
  have hc : sdc lo hi n = n - (hi + 1 - lo) := by unfold sdc; rw [if_neg (by omega)]; split <;> omega
  rw [hc] at hr
  have hb := pkI_bd (sdy x lo hi) (n - (hi + 1 - lo))
  unfold pkR
  rcases hr with ⟨a, b⟩ | ⟨a, b, c⟩
  · right
    exact ⟨a, by rw [if_neg (by rintro ⟨_, h⟩; omega)]⟩
  · left
    refine ⟨a, (pkI (sdy x lo hi) (n - (hi + 1 - lo))).toNat, by omega, ?_, c⟩
    rw [if_pos ⟨⟨by omega, by omega⟩, b⟩]
    congr 1
    omega

end Go.Proofs.Ytjmgohlepglkoaa.sideNum
