/- Runs of equal numbers, plainly. -/
import Derived.Test.YtkjmlpdbnnmlhabFloatAll
import Derived.Test.YtkjmlpdbnnmlhabCut
namespace Go.Proofs.Ytkjmlpdbnnmlhab.runs
set_option linter.unusedVariables false
open Go Ieee
open Go.Proofs.Ytkjmlpdbnnmlhab.floats Go.Proofs.Ytkjmlpdbnnmlhab.round Go.Proofs.Ytkjmlpdbnnmlhab.values Go.Proofs.Ytkjmlpdbnnmlhab.conv Go.Proofs.Ytkjmlpdbnnmlhab.cut

/-- The number b is beyond the run at i: less (s) or greater. -/
def near (s : Bool) (x : Nat → Nat) (i b : Nat) : Bool := FloatKind.f32.format.order (x b) (x i) == some (if s then .lt else .gt)
theorem near_lobe (x : Nat → Nat) (i b : Nat) : (FloatKind.f32.format.order (x i) (x b) == some .gt) = near true x i b := by
  unfold near
  rw [Bool.eq_iff_iff]
  simp only [beq_iff_eq, if_true]
  exact order_gt
theorem near_dip (x : Nat → Nat) (i b : Nat) : (FloatKind.f32.format.order (x i) (x b) == some .lt) = near false x i b := by
  unfold near
  rw [Bool.eq_iff_iff]
  simp only [beq_iff_eq, Bool.false_eq_true, if_false]
  exact order_gt.symm
theorem near_nan {s : Bool} {x : Nat → Nat} {i b : Nat} (h : isNaN .f32 (x i) = true) : near s x i b = false := by
  unfold near; rw [order_nan_r h]; rfl
/-- Where the run ends that begins at i. -/
def runR (x : Nat → Nat) (i _a b : Nat) : Bool := FloatKind.f32.format.order (x b) (x i) == some .eq
def runK (x : Nat → Nat) (n i : Nat) : Nat := hi (runR x i) (n - 1 - i) i
theorem runK_nan {x : Nat → Nat} {n i : Nat} (h : isNaN .f32 (x i) = true) : runK x n i = i := by
  unfold runK
  cases hf : n - 1 - i with
  | zero => rfl
  | succ f =>
    rw [hi_succ, if_neg]
    unfold runR; rw [order_nan_r h]; simp
def fine (s : Bool) (x : Nat → Nat) (n i k : Nat) : Bool := (decide (i = 0) || near s x i (i - 1)) && (decide (k + 1 = n) || near s x i (k + 1))
def runs (s : Bool) (x : Nat → Nat) (n : Nat) : Nat → Nat → List Int
  | 0, _ => []
  | f + 1, i => if i < n then (if isNaN .f32 (x i) = false ∧ fine s x n i (runK x n i) = true then [(i : Int)] else []) ++ runs s x n f (runK x n i + 1) else []
theorem runs_done {s : Bool} {x : Nat → Nat} {n f i : Nat} (h : n ≤ i) : runs s x n f i = [] := by
  cases f with
  | zero => rfl
  | succ f => show (if i < n then _ else _) = _; rw [if_neg (by omega)]
theorem runs_step {s : Bool} {x : Nat → Nat} {n f i j : Nat} (h : i < n) (hf : n - i ≤ f) (hK : runK x n i = j) (hj : i ≤ j) :
    ∃ f', n - (j + 1) ≤ f' ∧ runs s x n f i = (if isNaN .f32 (x i) = false ∧ fine s x n i j = true then [(i : Int)] else []) ++ runs s x n f' (j + 1) := by
  obtain ⟨g, rfl⟩ : ∃ g, f = g + 1 := ⟨f - 1, by omega⟩
  refine ⟨g, by omega, ?_⟩
  show (if i < n then _ else _) = _
  rw [if_pos h, hK]
/-- LobesOf, DipsOf, told. -/
def runsT (s : Bool) (x : Nat → Nat) (n : Nat) : List Int × Bool := if 1 ≤ n ∧ n ≤ 129 then (runs s x n n 0, true) else ([], false)
theorem runs_len (s : Bool) (x : Nat → Nat) (n f i : Nat) : (runs s x n f i).length ≤ f := by
  induction f generalizing i with
  | zero => exact Nat.le_refl _
  | succ f ih =>
    show (if i < n then _ else _ : List Int).length ≤ _
    split
    · have := ih (runK x n i + 1)
      rw [List.length_append]
      split
      · simp; omega
      · simp; omega
    · exact Nat.zero_le _
theorem runsT_len (s : Bool) (x : Nat → Nat) (n : Nat) : (runsT s x n).1.length ≤ 129 := by
  unfold runsT
  split
  · rename_i h
    exact Nat.le_trans (runs_len s x n n 0) h.2
  · exact Nat.zero_le _

end Go.Proofs.Ytkjmlpdbnnmlhab.runs
