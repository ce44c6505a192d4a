/- The places below n that a test chooses, in order. -/
namespace Go.Proofs.Ytabbfpjngbiohaa.failL
set_option linter.unusedVariables false
/-- The places below n at which p holds, as integers. -/
def fl (p : Nat → Bool) : Nat → List Int
  | 0 => []
  | n + 1 => fl p n ++ (if p n then [(n : Int)] else [])
theorem fl_yes {p : Nat → Bool} {n : Nat} (h : p n = true) : fl p (n + 1) = fl p n ++ [(n : Int)] := by simp [fl, h]
theorem fl_no {p : Nat → Bool} {n : Nat} (h : p n = false) : fl p (n + 1) = fl p n := by simp [fl, h]
theorem fl_len (p : Nat → Bool) (n : Nat) : (fl p n).length ≤ n := by
  induction n with
  | zero => exact Nat.le_refl _
  | succ n ih =>
    cases h : p n
    · rw [fl_no h]; omega
    · rw [fl_yes h]; simp; omega
theorem fl_mem (p : Nat → Bool) (n j : Nat) : (j : Int) ∈ fl p n ↔ j < n ∧ p j = true := by
  induction n with
  | zero => simp [fl]
  | succ n ih =>
    cases h : p n
    · rw [fl_no h, ih]
      constructor
      · rintro ⟨a, b⟩; exact ⟨by omega, b⟩
      · rintro ⟨a, b⟩
        refine ⟨?_, b⟩
        by_cases e : j = n
        · subst e; rw [h] at b; cases b
        · omega
    · rw [fl_yes h, List.mem_append, ih, List.mem_singleton]
      constructor
      · rintro (⟨a, b⟩ | e)
        · exact ⟨by omega, b⟩
        · have : j = n := by omega
          subst this; exact ⟨by omega, h⟩
      · rintro ⟨a, b⟩
        by_cases e : j = n
        · right; omega
        · left; exact ⟨by omega, b⟩
theorem fl_in (p : Nat → Bool) (n : Nat) : ∀ x ∈ fl p n, 0 ≤ x ∧ x ≤ (n : Int) - 1 := by
  induction n with
  | zero => intro x hx; cases hx
  | succ n ih =>
    intro x hx
    cases h : p n
    · rw [fl_no h] at hx
      have := ih x hx; omega
    · rw [fl_yes h, List.mem_append, List.mem_singleton] at hx
      rcases hx with hx | hx
      · have := ih x hx; omega
      · omega
theorem fl_get (p : Nat → Bool) (n k : Nat) (h : k < (fl p n).length) : 0 ≤ (fl p n)[k] ∧ (fl p n)[k] ≤ (n : Int) - 1 := fl_in p n _ (List.getElem_mem h)
theorem fl_up (p : Nat → Bool) (n : Nat) : ∀ k (h : k < (fl p n).length), 0 < k → (fl p n)[k - 1] < (fl p n)[k] := by
  induction n with
  | zero => intro k h; cases h
  | succ n ih =>
    intro k h hk
    cases hp : p n
    · simp only [fl_no hp] at h ⊢
      exact ih k h hk
    · simp only [fl_yes hp] at h ⊢
      rw [List.length_append, List.length_singleton] at h
      by_cases e : k < (fl p n).length
      · rw [List.getElem_append_left (by omega), List.getElem_append_left e]
        exact ih k e hk
      · rw [List.getElem_append_left (by omega), List.getElem_append_right (by omega)]
        have := (fl_get p n (k - 1) (by omega)).2
        simp
        omega
/-- What is chosen below n begins with what is chosen below i. -/
theorem fl_pre (p : Nat → Bool) (i : Nat) : ∀ d, ∃ r, fl p (i + d) = fl p i ++ r ∧ ∀ x ∈ r, (i : Int) ≤ x := by
  intro d
  induction d with
  | zero => exact ⟨[], by simp, by simp⟩
  | succ d ih =>
    obtain ⟨r, e, hr⟩ := ih
    cases h : p (i + d)
    · exact ⟨r, by rw [← Nat.add_assoc, fl_no h, e], hr⟩
    · refine ⟨r ++ [((i + d : Nat) : Int)], by rw [← Nat.add_assoc, fl_yes h, e, List.append_assoc], ?_⟩
      intro x hx
      rw [List.mem_append, List.mem_singleton] at hx
      rcases hx with hx | hx
      · exact hr x hx
      · omega
/-- The next of the chosen ones is i just where i is chosen. -/
theorem fl_at (p : Nat → Bool) {i n : Nat} (hi : i < n) : (p i = true → ∃ h : (fl p i).length < (fl p n).length, (fl p n)[(fl p i).length] = (i : Int)) ∧ (p i = false → ∀ h : (fl p i).length < (fl p n).length, (fl p n)[(fl p i).length] ≠ (i : Int)) := by
  obtain ⟨r, e, hr⟩ := fl_pre p (i + 1) (n - (i + 1))
  rw [show i + 1 + (n - (i + 1)) = n by omega] at e
  constructor
  · intro h
    rw [fl_yes h] at e
    refine ⟨by rw [e]; simp, ?_⟩
    simp only [e]
    rw [List.getElem_append_left (by simp), List.getElem_append_right (by omega)]
    simp
  · intro h hlt
    rw [fl_no h] at e
    simp only [e] at hlt ⊢
    rw [List.getElem_append_right (by omega)]
    have := hr _ (List.getElem_mem (l := r) (n := (fl p i).length - (fl p i).length) (by rw [List.length_append] at hlt; omega))
    omega

end Go.Proofs.Ytabbfpjngbiohaa.failL
