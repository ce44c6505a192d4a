/- The text of a list of integers, plainly. -/
import Derived.Test.YthlfclnfkgiddaaDoorDecNum
import Derived.Lib.ItoaNum
import Derived.Lib.Join
namespace Go.Proofs.YthlfclnfkgiddaaDoor.textNum
set_option linter.unusedVariables false
open Go Go.Lib
open Go.Proofs.YthlfclnfkgiddaaDoor.decNum

theorem dd_len (u k : Nat) (h : u < 10 ^ k) (hk : 1 ≤ k) : (decDigits u).length ≤ k := by
  induction k generalizing u with
  | zero => omega
  | succ k ih =>
    unfold decDigits
    by_cases h1 : u < 10
    · rw [dif_pos h1]; simp
    · rw [dif_neg h1]
      have hk1 : 1 ≤ k := by
        rcases Nat.eq_zero_or_pos k with h0 | h0
        · subst h0; simp at h; omega
        · exact h0
      have := ih (u / 10) (by rw [Nat.pow_succ] at h; exact Nat.div_lt_of_lt_mul (by rw [Nat.mul_comm]; exact h)) hk1
      simp
      omega
theorem itoa_len (n : Int) (h0 : -9223372036854775808 ≤ n) (h1 : n ≤ 9223372036854775807) : (itoa n).length ≤ 20 := by
  unfold itoa
  split
  · have := dd_len n.natAbs 19 (by omega) (by omega)
    simp; omega
  · have := dd_len n.toNat 19 (by omega) (by omega)
    omega
/-- The text of a list that is not empty. -/
def tx (xs : List Int) : List UInt8 := join (xs.map itoa) [44]
theorem tx_one (x : Int) : tx [x] = itoa x := join_one _ _
theorem tx_snoc (xs : List Int) (x : Int) (h : xs ≠ []) : tx (xs ++ [x]) = tx xs ++ 44 :: itoa x := by
  cases xs with
  | nil => exact absurd rfl h
  | cons y r =>
    unfold tx
    rw [List.cons_append, List.map_cons, List.map_cons, join_cons, join_cons]
    simp [joinTail, List.append_assoc]
def okN (n : Int) : Bool := decide (-1000000000000000 ≤ n ∧ n ≤ 1000000000000000)
theorem okN_yes {n : Int} (h : okN n = true) : -1000000000000000 ≤ n ∧ n ≤ 1000000000000000 := of_decide_eq_true h
theorem okN_no {n : Int} (h : okN n = false) : n < -1000000000000000 ∨ 1000000000000000 < n := by
  have := of_decide_eq_false h; omega
def okL (xs : List Int) : Bool := xs.all okN
theorem okL_at {xs : List Int} (h : okL xs = true) (j : Nat) (hj : j < xs.length) : okN xs[j] = true := List.all_eq_true.1 h _ (List.getElem_mem hj)
theorem okL_bad {xs : List Int} (j : Nat) (hj : j < xs.length) (h : okN xs[j] = false) : okL xs = false := by
  cases ho : okL xs
  · rfl
  · rw [okL_at ho j hj] at h; cases h
theorem take_snoc (xs : List Int) (k : Nat) (hk : k < xs.length) : xs.take (k + 1) = xs.take k ++ [xs[k]] := by
  rw [List.take_succ_eq_append_getElem hk]
theorem tx_len (xs : List Int) (h : okL xs = true) (k : Nat) (hk : k < xs.length) : (tx (xs.take (k + 1))).length ≤ 21 * (k + 1) := by
  induction k with
  | zero =>
    have e : xs.take 1 = [xs[0]] := by rw [take_snoc xs 0 hk]; simp
    rw [e, tx_one]
    have ho := okN_yes (okL_at h 0 hk)
    have := itoa_len xs[0] (by omega) (by omega)
    omega
  | succ k ih =>
    have hi := ih (by omega)
    rw [take_snoc xs (k + 1) hk, tx_snoc _ _ (by intro e; have h5 := congrArg List.length e; rw [List.length_take, List.length_nil] at h5; omega)]
    have ho := okN_yes (okL_at h (k + 1) hk)
    have := itoa_len xs[k + 1] (by omega) (by omega)
    simp only [List.length_append, List.length_cons]
    omega
/-- ListText, told. -/
def textT (xs : List Int) : List UInt8 × Bool :=
  if xs.length ≤ 64 ∧ okL xs = true then (if xs = [] then [110, 111, 110, 101] else tx xs, true) else ([], false)

end Go.Proofs.YthlfclnfkgiddaaDoor.textNum
