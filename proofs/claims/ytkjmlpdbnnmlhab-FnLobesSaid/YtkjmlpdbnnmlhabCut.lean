/- Cuts, plainly: orders turned round, halves, the greatest number by both ways, ends of reaches, runs. -/
import Derived.Test.YtkjmlpdbnnmlhabFloatAll
namespace Go.Proofs.Ytkjmlpdbnnmlhab.cut
set_option linter.unusedVariables false
open Go Ieee
open Go.Proofs.Ytkjmlpdbnnmlhab.floats Go.Proofs.Ytkjmlpdbnnmlhab.round Go.Proofs.Ytkjmlpdbnnmlhab.values Go.Proofs.Ytkjmlpdbnnmlhab.conv

theorem int_swap (a b : Int) : compare b a = (compare a b).swap := by
  rcases Int.lt_trichotomy a b with h | h | h
  · rw [Int.compare_eq_lt.2 h, Int.compare_eq_gt.2 h]; rfl
  · subst h; simp [Ordering.swap]
  · rw [Int.compare_eq_gt.2 h, Int.compare_eq_lt.2 h]; rfl
theorem bool_swap (a b : Bool) : compare b.toNat a.toNat = (compare a.toNat b.toNat).swap := by cases a <;> cases b <;> rfl
theorem datum_swap (a b : Datum) : b.order a = (a.order b).map Ordering.swap := by
  cases a <;> cases b <;> simp only [Datum.order, Option.map_some, Option.map_none]
  · rw [Int.min_comm, int_swap]
  · split <;> rfl
  · split <;> rfl
  · rw [bool_swap]
theorem order_swap (k : FloatKind) (a b : Nat) : k.format.order b a = (k.format.order a b).map Ordering.swap := datum_swap _ _
theorem order_gt {k : FloatKind} {a b : Nat} : (k.format.order a b = some .gt) ↔ (k.format.order b a = some .lt) := by
  rw [order_swap k a b]
  cases k.format.order a b with
  | none => simp
  | some o => cases o <;> simp [Ordering.swap]
theorem order_eq {k : FloatKind} {a b : Nat} : (k.format.order a b = some .eq) ↔ (k.format.order b a = some .eq) := by
  rw [order_swap k a b]
  cases k.format.order a b with
  | none => simp
  | some o => cases o <;> simp [Ordering.swap]
theorem order_own (k : FloatKind) (a : Nat) : k.format.order a a = if isNaN k a then none else some .eq := by
  by_cases h : isNaN k a = true
  · rw [order_nan_l h, if_pos h]
  · rw [order_refl (by simpa using h), if_neg h]

/-- a half of a number: no draw where it is one. -/
theorem half_some {a : Nat} (h : isNaN .f32 a = false) : ∃ r, floatBits .quo .f32 a 1073741824 = some r := by
  have e2 : ∃ m i, m ≠ 0 ∧ single.read 1073741824 = .number false m i := ⟨8388608, _, by decide, by rfl⟩
  obtain ⟨m, i, hm, e⟩ := e2
  show ∃ r, single.div a 1073741824 = some r
  unfold Format.div
  rw [e]
  have h' : (single.read a).isNaN = false := h
  revert h'
  cases single.read a <;> simp [Datum.isNaN, Datum.quotient, hm]

section
variable (x : Nat → Nat)
/-- The index of the greatest of the first k numbers, or -1. -/
def pkI : Nat → Int
  | 0 => -1
  | k + 1 => if FloatKind.f32.format.order (x k) (x k) = some .eq ∧ (pkI k < 0 ∨ FloatKind.f32.format.order (x k) (x (pkI k).toNat) = some .gt) then (k : Int) else pkI k
def pm : Nat → Nat
  | 0 => 0
  | k + 1 => if FloatKind.f32.format.order (x k) (x (pm k)) = some .gt ∨ isNaN .f32 (x (pm k)) = true then k else pm k
theorem pkI_succ (k : Nat) : pkI x (k + 1) = if FloatKind.f32.format.order (x k) (x k) = some .eq ∧ (pkI x k < 0 ∨ FloatKind.f32.format.order (x k) (x (pkI x k).toNat) = some .gt) then (k : Int) else pkI x k := rfl
theorem pm_succ (k : Nat) : pm x (k + 1) = if FloatKind.f32.format.order (x k) (x (pm x k)) = some .gt ∨ isNaN .f32 (x (pm x k)) = true then k else pm x k := rfl
theorem pkI_bd (k : Nat) : -1 ≤ pkI x k ∧ pkI x k < k := by
  induction k with
  | zero => simp [pkI]
  | succ k ih =>
    rw [pkI_succ]
    split
    · omega
    · omega
theorem pm_lt (k : Nat) : pm x k ≤ k - 1 := by
  induction k with
  | zero => simp [pm]
  | succ k ih =>
    rw [pm_succ]
    split
    · omega
    · omega
theorem pm_pk (k : Nat) : (0 ≤ pkI x k → (pm x k : Int) = pkI x k ∧ isNaN .f32 (x (pm x k)) = false) ∧ (pkI x k < 0 → 0 < k → isNaN .f32 (x (pm x k)) = true) := by
  induction k with
  | zero => exact ⟨fun h => by simp [pkI] at h, fun _ h => by omega⟩
  | succ k ih =>
    obtain ⟨ih1, ih2⟩ := ih
    have hb := pkI_bd x k
    by_cases hn : isNaN .f32 (x k) = true
    · have e1 : pkI x (k + 1) = pkI x k := by
        rw [pkI_succ, if_neg]
        intro h
        rw [order_nan_l hn] at h
        exact absurd h.1 (by simp)
      rw [e1]
      by_cases hk : pkI x k < 0
      · refine ⟨fun h => by omega, fun _ _ => ?_⟩
        by_cases h0 : k = 0
        · subst h0
          have : pm x 1 = 0 := by rw [pm_succ]; split <;> rfl
          rw [this]; exact hn
        · have : pm x (k + 1) = k := by rw [pm_succ, if_pos (.inr (ih2 hk (by omega)))]
          rw [this]; exact hn
      · obtain ⟨q1, q2⟩ := ih1 (by omega)
        have : pm x (k + 1) = pm x k := by
          rw [pm_succ, if_neg]
          rintro (h | h)
          · rw [order_nan_l hn] at h; cases h
          · rw [q2] at h; cases h
        rw [this]
        exact ⟨fun _ => ⟨q1, q2⟩, fun h => by omega⟩
    · have hn' : isNaN .f32 (x k) = false := by simpa using hn
      have hr := order_refl hn'
      by_cases hk : pkI x k < 0
      · have e1 : pkI x (k + 1) = k := by rw [pkI_succ, if_pos ⟨hr, .inl hk⟩]
        have e2 : pm x (k + 1) = k := by
          by_cases h0 : k = 0
          · subst h0
            rw [pm_succ]; split <;> rfl
          · rw [pm_succ, if_pos (.inr (ih2 hk (by omega)))]
        rw [e1, e2]
        exact ⟨fun _ => ⟨rfl, hn'⟩, fun h => by omega⟩
      · obtain ⟨q1, q2⟩ := ih1 (by omega)
        have q3 : (pkI x k).toNat = pm x k := by omega
        by_cases hg : FloatKind.f32.format.order (x k) (x (pm x k)) = some .gt
        · have e1 : pkI x (k + 1) = k := by rw [pkI_succ, if_pos ⟨hr, .inr (by rw [q3]; exact hg)⟩]
          have e2 : pm x (k + 1) = k := by rw [pm_succ, if_pos (.inl hg)]
          rw [e1, e2]
          exact ⟨fun _ => ⟨rfl, hn'⟩, fun h => by omega⟩
        · have e1 : pkI x (k + 1) = pkI x k := by
            rw [pkI_succ, if_neg]
            rintro ⟨_, h | h⟩
            · omega
            · rw [q3] at h; exact hg h
          have e2 : pm x (k + 1) = pm x k := by
            rw [pm_succ, if_neg]
            rintro (h | h)
            · exact hg h
            · rw [q2] at h; cases h
          rw [e1, e2]
          exact ⟨fun _ => ⟨q1, q2⟩, fun h => by omega⟩
end

/-- PeakOf, told. -/
def pkR (x : Nat → Nat) (n : Nat) : Int × Bool := if (1 ≤ n ∧ n ≤ 129) ∧ 0 ≤ pkI x n then (pkI x n, true) else (0, false)

/-! ## reaches -/
section
variable (r : Nat → Nat → Bool)
/-- How far down one comes from an index. -/
def lo : Nat → Nat
  | 0 => 0
  | k + 1 => if r (k + 1) k then lo k else k + 1
/-- How far up, by at most so many steps. -/
def hi : Nat → Nat → Nat
  | 0, j => j
  | f + 1, j => if r j (j + 1) then hi f (j + 1) else j
theorem lo_succ (k : Nat) : lo r (k + 1) = if r (k + 1) k then lo r k else k + 1 := rfl
theorem hi_succ (f j : Nat) : hi r (f + 1) j = if r j (j + 1) then hi r f (j + 1) else j := rfl
theorem lo_le (k : Nat) : lo r k ≤ k := by
  induction k with
  | zero => exact Nat.le_refl _
  | succ k ih => rw [lo_succ]; split <;> omega
theorem hi_bd (f j : Nat) : j ≤ hi r f j ∧ hi r f j ≤ j + f := by
  induction f generalizing j with
  | zero => exact ⟨Nat.le_refl _, Nat.le_refl _⟩
  | succ f ih =>
    rw [hi_succ]
    split
    · have := ih (j + 1); omega
    · omega
end
/-- MainLobe, WidthOf, told. -/
def reach (r : Nat → Nat → Bool) (n at_ : Nat) : Nat × Nat := (lo r at_, hi r (n - 1 - at_) at_)
theorem reach_congr {r s : Nat → Nat → Bool} (h : ∀ a b, r a b = s a b) : r = s := funext fun a => funext fun b => h a b

end Go.Proofs.Ytkjmlpdbnnmlhab.cut
