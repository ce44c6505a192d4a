/- The shortest tour: the search by sets, and its first best way. -/
namespace Go.Proofs.Ytmemclcoegmjjaa.tourN
set_option linter.unusedVariables false

/-- Of the first j with their bit in m, the first one where g is least. -/
def fm (g : Nat → Int) (m : Nat) : Nat → Option Nat
  | 0 => none
  | k + 1 => if m.testBit k then (match fm g m k with | none => some k | some q => if g k < g q then some k else some q) else fm g m k
theorem fm_is {g : Nat → Int} {m : Nat} : ∀ {j q : Nat}, fm g m j = some q → q < j ∧ m.testBit q = true ∧ (∀ k, k < j → m.testBit k = true → g q ≤ g k) ∧ (∀ k, k < q → m.testBit k = true → g q < g k)
  | 0, q, h => by cases h
  | j + 1, q, h => by
    unfold fm at h
    by_cases hb : m.testBit j = true
    · rw [if_pos hb] at h
      cases hf : fm g m j with
      | none =>
        rw [hf] at h
        injection h with h
        subst h
        have hno : ∀ k, k < j → m.testBit k = true → False := fun k hk hk2 => by
          have : ∀ i, k < i → fm g m i ≠ none := fun i => by
            induction i with
            | zero => intro h; omega
            | succ i ih =>
              intro h
              unfold fm
              by_cases e : k = i
              · subst e
                rw [if_pos hk2]
                cases fm g m k <;> simp
                split <;> simp
              · split
                · cases fm g m i <;> simp
                  split <;> simp
                · exact ih (by omega)
          exact this j hk hf
        exact ⟨by omega, hb, fun k hk hk2 => by
          by_cases e : k = j
          · subst e; omega
          · exact (hno k (by omega) hk2).elim, fun k hk hk2 => (hno k hk hk2).elim⟩
      | some p =>
        rw [hf] at h
        obtain ⟨a1, a2, a3, a4⟩ := fm_is hf
        by_cases hl : g j < g p
        · simp only [if_pos hl] at h
          injection h with h
          subst h
          exact ⟨by omega, hb, fun k hk hk2 => by
            by_cases e : k = j
            · subst e; omega
            · have := a3 k (by omega) hk2; omega, fun k hk hk2 => by have := a3 k hk hk2; omega⟩
        · simp only [if_neg hl] at h
          injection h with h
          subst h
          exact ⟨by omega, a2, fun k hk hk2 => by
            by_cases e : k = j
            · subst e; omega
            · exact a3 k (by omega) hk2, a4⟩
    · rw [if_neg hb] at h
      obtain ⟨a1, a2, a3, a4⟩ := fm_is h
      exact ⟨by omega, a2, fun k hk hk2 => by
        by_cases e : k = j
        · subst e; exact (hb hk2).elim
        · exact a3 k (by omega) hk2, a4⟩
theorem fm_some {g : Nat → Int} {m k : Nat} (hk2 : m.testBit k = true) : ∀ {i : Nat}, k < i → ∃ q, fm g m i = some q
  | 0, h => by omega
  | i + 1, h => by
    unfold fm
    by_cases e : k = i
    · subst e
      rw [if_pos hk2]
      cases fm g m k with
      | none => exact ⟨_, rfl⟩
      | some q => simp only []; split <;> exact ⟨_, rfl⟩
    · obtain ⟨q, hq⟩ := fm_some hk2 (show k < i by omega)
      rw [hq]
      split
      · simp only []; split <;> exact ⟨_, rfl⟩
      · exact ⟨_, rfl⟩
theorem fm_congr {g h : Nat → Int} {m : Nat} : ∀ {j : Nat}, (∀ k, k < j → m.testBit k = true → g k = h k) → fm g m j = fm h m j
  | 0, _ => rfl
  | j + 1, e => by
    have ih := fm_congr (j := j) fun k hk hb => e k (by omega) hb
    unfold fm
    rw [ih]
    split
    · rename_i hb
      cases hf : fm h m j with
      | none => rfl
      | some q =>
        obtain ⟨a1, a2, _, _⟩ := fm_is hf
        simp only [e j (by omega) hb, e q (by omega) a2]
    · rfl

/-- The least ticks from a through the set m back to 0. -/
def L (n : Nat) (c : Nat → Nat → Int) (a m : Nat) : Int :=
  if h : m = 0 then c a 0
  else match fm (fun k => c a k + L n c k (m - 2 ^ k)) m n with
    | some k => c a k + L n c k (m - 2 ^ k)
    | none => 0
termination_by m
decreasing_by all_goals exact Nat.sub_lt (by omega) (Nat.pos_of_ne_zero (by simp))
def V (n : Nat) (c : Nat → Nat → Int) (a m k : Nat) : Int := c a k + L n c k (m - 2 ^ k)
/-- The first best way. -/
def G (n : Nat) (c : Nat → Nat → Int) (a m : Nat) : List Nat :=
  if h : m = 0 then []
  else match fm (V n c a m) m n with
    | some k => k :: G n c k (m - 2 ^ k)
    | none => []
termination_by m
decreasing_by all_goals exact Nat.sub_lt (by omega) (Nat.pos_of_ne_zero (by simp))
theorem L_zero (n : Nat) (c : Nat → Nat → Int) (a : Nat) : L n c a 0 = c a 0 := by rw [L]; simp
theorem L_pos {n : Nat} {c : Nat → Nat → Int} {a m q : Nat} (h : m ≠ 0) (hq : fm (V n c a m) m n = some q) : L n c a m = V n c a m q := by
  rw [L, dif_neg h]
  rw [show (fun k => c a k + L n c k (m - 2 ^ k)) = V n c a m from rfl, hq]
  first | done | rfl
theorem G_zero (n : Nat) (c : Nat → Nat → Int) (a : Nat) : G n c a 0 = [] := by rw [G]; simp
theorem G_pos {n : Nat} {c : Nat → Nat → Int} {a m q : Nat} (h : m ≠ 0) (hq : fm (V n c a m) m n = some q) : G n c a m = q :: G n c q (m - 2 ^ q) := by
  rw [G, dif_neg h, hq]

/-- How many are in a set. -/
def pc (m : Nat) : Nat := ((List.range 7).filter m.testBit).length
theorem clr : ∀ m : Nat, m < 128 → ∀ k : Nat, k < 7 → m.testBit k = true → pc (m - 2 ^ k) + 1 = pc m ∧ ∀ j : Nat, j < 7 → (m - 2 ^ k).testBit j = (m.testBit j && !decide (j = k)) := by decide +kernel
theorem pc_zero : ∀ m : Nat, m < 128 → (pc m = 0 ↔ m = 0) := by decide +kernel
theorem some_bit {m n : Nat} (h : m ≠ 0) (hm : m < 2 ^ n) : ∃ k, k < n ∧ m.testBit k = true := by
  obtain ⟨k, hk⟩ := Nat.exists_testBit_of_ne_zero h
  refine ⟨k, Nat.lt_of_not_le fun hn => ?_, hk⟩
  rw [Nat.testBit_lt_two_pow (Nat.lt_of_lt_of_le hm (Nat.pow_le_pow_right (by omega) hn))] at hk
  cases hk
theorem two_le {n : Nat} (h : n ≤ 7) : 2 ^ n ≤ 128 := Nat.pow_le_pow_right (by omega) h (n := 2)
theorem found {n m : Nat} (c : Nat → Nat → Int) (a : Nat) (h : m ≠ 0) (hm : m < 2 ^ n) : ∃ q, fm (V n c a m) m n = some q := by
  obtain ⟨k, hk, hb⟩ := some_bit h hm
  exact fm_some hb hk
theorem G_len {n : Nat} (hn : n ≤ 7) (c : Nat → Nat → Int) : ∀ (f a m : Nat), m ≤ f → m < 2 ^ n → (G n c a m).length = pc m ∧ ∀ x ∈ G n c a m, x < n
  | f, a, m, hf, hm => by
    by_cases h : m = 0
    · subst h; rw [G_zero]; exact ⟨rfl, by simp⟩
    · obtain ⟨q, hq⟩ := found c a h hm
      obtain ⟨a1, a2, _, _⟩ := fm_is hq
      have hp : 0 < 2 ^ q := Nat.pos_of_ne_zero (by simp)
      have h7 := two_le hn
      obtain ⟨e1, _⟩ := clr m (by omega) q (by omega) a2
      match f, hf with
      | f + 1, hf =>
        have ih := G_len hn c f q (m - 2 ^ q) (by omega) (by omega)
        rw [G_pos h hq]
        refine ⟨by rw [List.length_cons, ih.1, e1], fun x hx => ?_⟩
        rcases List.mem_cons.1 hx with rfl | hx
        · exact a1
        · exact ih.2 x hx
      | 0, hf => omega
theorem L_bd {n : Nat} (hn : n ≤ 7) (h0 : 1 ≤ n) {c : Nat → Nat → Int} (hc : ∀ a b, a < n → b < n → 0 ≤ c a b ∧ c a b ≤ 8) : ∀ (f a m : Nat), m ≤ f → a < n → m < 2 ^ n → 0 ≤ L n c a m ∧ L n c a m ≤ 8 * (pc m + 1)
  | f, a, m, hf, ha, hm => by
    by_cases h : m = 0
    · subst h; rw [L_zero]; have := hc a 0 ha (by omega); omega
    · obtain ⟨q, hq⟩ := found c a h hm
      obtain ⟨a1, a2, _, _⟩ := fm_is hq
      have hp : 0 < 2 ^ q := Nat.pos_of_ne_zero (by simp)
      have h7 := two_le hn
      obtain ⟨e1, _⟩ := clr m (by omega) q (by omega) a2
      match f, hf with
      | f + 1, hf =>
        have ih := L_bd hn h0 hc f q (m - 2 ^ q) (by omega) a1 (by omega)
        have := hc a q ha a1
        rw [L_pos h hq]
        unfold V
        omega
      | 0, hf => omega

end Go.Proofs.Ytmemclcoegmjjaa.tourN
