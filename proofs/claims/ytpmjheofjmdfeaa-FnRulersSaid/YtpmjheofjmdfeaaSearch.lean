/- Two searches for marks, plainly: one that looks ahead, one that does not; they find the same. -/
namespace Go.Proofs.Ytpmjheofjmdfeaa.search
set_option linter.unusedVariables false

/-- The first that f finds, of k numbers from lo on. -/
def tryL (f : Int → Option (List Int)) : Nat → Int → Option (List Int)
  | 0, _ => none
  | k + 1, lo => match f lo with
    | some r => some r
    | none => tryL f k (lo + 1)
theorem tryL_none {f : Int → Option (List Int)} : ∀ (k : Nat) (lo : Int), (∀ m, lo ≤ m → m < lo + k → f m = none) → tryL f k lo = none
  | 0, _, _ => rfl
  | k + 1, lo, h => by
    have h0 := h lo (by omega) (by omega)
    show (match f lo with | some r => some r | none => tryL f k (lo + 1)) = none
    rw [h0]
    exact tryL_none k (lo + 1) (fun m h1 h2 => h m (by omega) (by omega))
theorem tryL_congr {f g : Int → Option (List Int)} : ∀ (k : Nat) (lo : Int), (∀ m, lo ≤ m → m < lo + k → f m = g m) → tryL f k lo = tryL g k lo
  | 0, _, _ => rfl
  | k + 1, lo, h => by
    have h0 := h lo (by omega) (by omega)
    have ih := tryL_congr k (lo + 1) (fun m h1 h2 => h m (by omega) (by omega))
    show (match f lo with | some r => some r | none => tryL f k (lo + 1)) = (match g lo with | some r => some r | none => tryL g k (lo + 1))
    rw [h0, ih]
theorem tryL_short {f : Int → Option (List Int)} : ∀ (k j : Nat) (lo : Int), (∀ m, lo + k ≤ m → m < lo + k + j → f m = none) → tryL f (k + j) lo = tryL f k lo
  | 0, j, lo, h => by
    rw [Nat.zero_add]
    exact tryL_none j lo (fun m h1 h2 => h m (by omega) (by omega))
  | k + 1, j, lo, h => by
    have ih := tryL_short k j (lo + 1) (fun m h1 h2 => h m (by omega) (by omega))
    rw [show k + 1 + j = (k + j) + 1 by omega]
    show (match f lo with | some r => some r | none => tryL f (k + j) (lo + 1)) = (match f lo with | some r => some r | none => tryL f k (lo + 1))
    rw [ih]
theorem tryL_some {f : Int → Option (List Int)} {r : List Int} : ∀ (k : Nat) (lo : Int), tryL f k lo = some r → ∃ m, lo ≤ m ∧ m < lo + k ∧ f m = some r
  | 0, lo, h => by cases h
  | k + 1, lo, h => by
    have h' : (match f lo with | some r => some r | none => tryL f k (lo + 1)) = some r := h
    cases hf : f lo with
    | some q =>
      rw [hf] at h'
      injection h' with h'
      subst h'
      exact ⟨lo, by omega, by omega, hf⟩
    | none =>
      rw [hf] at h'
      obtain ⟨m, h1, h2, h3⟩ := tryL_some k (lo + 1) h'
      exact ⟨m, by omega, by omega, h3⟩
theorem tryL_found {f : Int → Option (List Int)} {m : Int} {r : List Int} : ∀ (k : Nat) (lo : Int), lo ≤ m → m < lo + k → f m = some r → ∃ q, tryL f k lo = some q
  | 0, lo, h1, h2, _ => by omega
  | k + 1, lo, h1, h2, h3 => by
    show ∃ q, (match f lo with | some r => some r | none => tryL f k (lo + 1)) = some q
    cases hf : f lo with
    | some q => exact ⟨q, rfl⟩
    | none =>
      by_cases e : m = lo
      · subst e; rw [hf] at h3; cases h3
      · exact tryL_found k (lo + 1) (by omega) (by omega) h3

def endOf (ms : List Int) : Int := ms.getD (ms.length - 1) 0
theorem end_snoc (ms : List Int) (m : Int) : endOf (ms ++ [m]) = m := by simp [endOf, List.getD]
/-- The search that looks at each beginning, and ahead. -/
def di (wB : List Int → Bool) (last : Int) : Nat → List Int → Option (List Int)
  | 0, ms => if (wB ms && decide (endOf ms = last)) = true then some ms else none
  | k + 1, ms => if wB ms = true then tryL (fun m => di wB last k (ms ++ [m])) (last - k - endOf ms).toNat (endOf ms + 1) else none
/-- The search as the document's model has it. -/
def ds (fin rB : List Int → Bool) (last : Int) : Nat → List Int → Option (List Int)
  | 0, ms => if fin ms = true then some ms else none
  | k + 1, ms => tryL (fun m => if rB (ms ++ [m]) = true then ds fin rB last k (ms ++ [m]) else none) (last - endOf ms).toNat (endOf ms + 1)

/-- Increasing from 0 up to at most last. -/
def GoodM (last : Int) (ms : List Int) : Prop := 1 ≤ ms.length ∧ ms.Pairwise (· < ·) ∧ (∀ x ∈ ms, 0 ≤ x ∧ x ≤ last)
theorem end_mem {ms : List Int} (h : 1 ≤ ms.length) : endOf ms ∈ ms := by
  unfold endOf
  have : ms.length - 1 < ms.length := by omega
  simp only [List.getD, List.getElem?_eq_getElem this, Option.getD_some]
  exact List.getElem_mem this
theorem le_end {ms : List Int} (h : 1 ≤ ms.length) (hp : ms.Pairwise (· < ·)) : ∀ x ∈ ms, x ≤ endOf ms := by
  intro x hx
  obtain ⟨i, hi, rfl⟩ := List.getElem_of_mem hx
  have h1 : ms.length - 1 < ms.length := by omega
  have e : endOf ms = ms[ms.length - 1] := by simp [endOf, List.getD, List.getElem?_eq_getElem h1]
  rw [e]
  by_cases h2 : i = ms.length - 1
  · subst h2; exact Int.le_refl _
  · exact Int.le_of_lt (List.pairwise_iff_getElem.1 hp i (ms.length - 1) hi h1 (by omega))
theorem GoodM.snoc {last : Int} {ms : List Int} (h : GoodM last ms) {m : Int} (h1 : endOf ms < m) (h2 : m ≤ last) : GoodM last (ms ++ [m]) := by
  obtain ⟨g1, g2, g3⟩ := h
  have g0 := (g3 _ (end_mem g1)).1
  refine ⟨by simp, ?_, ?_⟩
  · rw [List.pairwise_append]
    refine ⟨g2, by simp, fun x hx y hy => ?_⟩
    rw [List.mem_singleton.1 hy]
    have := le_end g1 g2 x hx
    omega
  · intro x hx
    rcases List.mem_append.1 hx with h | h
    · exact g3 x h
    · rw [List.mem_singleton.1 h]; exact ⟨by omega, h2⟩
theorem ds_none {fin rB : List Int → Bool} {last : Int} (hd : ∀ ms, fin ms = true → endOf ms = last) : ∀ (k : Nat) (ms : List Int), last < endOf ms + k → ds fin rB last k ms = none
  | 0, ms, h => by
    show (if fin ms = true then some ms else none) = none
    rw [if_neg (fun hf => by have := hd ms hf; omega)]
  | k + 1, ms, h => by
    refine tryL_none _ _ (fun m h1 h2 => ?_)
    show (if rB (ms ++ [m]) = true then ds fin rB last k (ms ++ [m]) else none) = none
    split
    · exact ds_none hd k _ (by rw [end_snoc]; omega)
    · rfl
theorem di_ds {wB fin rB : List Int → Bool} {last : Int} (ha : ∀ ms, GoodM last ms → (wB ms && decide (endOf ms = last)) = (rB ms && fin ms)) (hb : ∀ ms, GoodM last ms → wB ms = false → rB ms = false ∨ last ≤ endOf ms) (hc : ∀ ms, GoodM last ms → wB ms = true → rB ms = true) (hd : ∀ ms, fin ms = true → endOf ms = last) :
    ∀ (k : Nat) (ms : List Int), GoodM last ms → di wB last k ms = if rB ms = true then ds fin rB last k ms else none
  | 0, ms, hg => by
    show (if (wB ms && decide (endOf ms = last)) = true then some ms else none) = if rB ms = true then (if fin ms = true then some ms else none) else none
    rw [ha ms hg]
    cases rB ms <;> cases fin ms <;> rfl
  | k + 1, ms, hg => by
    show (if wB ms = true then tryL (fun m => di wB last k (ms ++ [m])) (last - k - endOf ms).toNat (endOf ms + 1) else none) = if rB ms = true then tryL (fun m => if rB (ms ++ [m]) = true then ds fin rB last k (ms ++ [m]) else none) (last - endOf ms).toNat (endOf ms + 1) else none
    cases hw : wB ms with
    | false =>
      rw [if_neg (by simp)]
      rcases hb ms hg hw with h | h
      · rw [if_neg (by rw [h]; simp)]
      · rw [show (last - endOf ms).toNat = 0 by omega]
        split <;> rfl
    | true =>
      rw [if_pos rfl, if_pos (hc ms hg hw)]
      have e : ∃ j, (last - endOf ms).toNat = (last - k - endOf ms).toNat + j := ⟨(last - endOf ms).toNat - (last - k - endOf ms).toNat, by omega⟩
      obtain ⟨j, e⟩ := e
      rw [e, tryL_short]
      · refine tryL_congr _ _ (fun m h1 h2 => ?_)
        exact di_ds ha hb hc hd k _ (hg.snoc (by omega) (by omega))
      · intro m h1 h2
        split
        · exact ds_none hd k _ (by rw [end_snoc]; omega)
        · rfl
/-- What is found is good, has so many more, and ends the search. -/
theorem ds_is {fin rB : List Int → Bool} {last : Int} : ∀ (k : Nat) (ms r : List Int), GoodM last ms → rB ms = true → ds fin rB last k ms = some r → GoodM last r ∧ rB r = true ∧ fin r = true ∧ r.length = ms.length + k
  | 0, ms, r, hg, hr, h => by
    have h' : (if fin ms = true then some ms else none) = some r := h
    by_cases hf : fin ms = true
    · rw [if_pos hf] at h'
      injection h' with h'
      subst h'
      exact ⟨hg, hr, hf, rfl⟩
    · rw [if_neg hf] at h'; cases h'
  | k + 1, ms, r, hg, hr, h => by
    obtain ⟨m, h1, h2, h3⟩ := tryL_some _ _ h
    by_cases hm : rB (ms ++ [m]) = true
    · rw [if_pos hm] at h3
      obtain ⟨a, b, c, d⟩ := ds_is k _ r (hg.snoc (by omega) (by omega)) hm h3
      exact ⟨a, b, c, by rw [d]; simp; omega⟩
    · rw [if_neg hm] at h3; cases h3
theorem ds_found {fin : List Int → Bool} {last : Int} : ∀ (ext ms : List Int), GoodM last ms → GoodM last (ms ++ ext) → fin (ms ++ ext) = true → ∃ r, ds fin (fun _ => true) last ext.length ms = some r
  | [], ms, _, _, hf => ⟨ms, by rw [List.append_nil] at hf; show (if fin ms = true then some ms else none) = _; rw [if_pos hf]⟩
  | m :: ext, ms, hg, hg2, hf => by
    have e : ms ++ m :: ext = (ms ++ [m]) ++ ext := by simp
    rw [e] at hg2 hf
    have hm : endOf ms < m ∧ m ≤ last := by
      obtain ⟨g1, g2, g3⟩ := hg2
      refine ⟨?_, (g3 m (by simp)).2⟩
      rw [← e] at g2
      exact (List.pairwise_append.1 g2).2.2 _ (end_mem hg.1) m (by simp)
    obtain ⟨r, hr⟩ := ds_found ext (ms ++ [m]) (hg.snoc hm.1 hm.2) hg2 hf
    have h2 := tryL_found (f := fun m => if (fun _ => true : List Int → Bool) (ms ++ [m]) = true then ds fin (fun _ => true) last ext.length (ms ++ [m]) else none) (last - endOf ms).toNat (endOf ms + 1) (m := m) (by omega) (by omega) (by rw [if_pos rfl]; exact hr)
    exact h2

end Go.Proofs.Ytpmjheofjmdfeaa.search
