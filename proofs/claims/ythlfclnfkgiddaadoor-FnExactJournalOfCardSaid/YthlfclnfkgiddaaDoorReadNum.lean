/- Numerals read, plainly: by the library's way and by the model's. -/
import Derived.Test.YthlfclnfkgiddaaDoorDecNum
import Derived.Test.YthlfclnfkgiddaaDoorTextNum
import Derived.Lib.ItoaNum
import Derived.Lib.ParseIntB
namespace Go.Proofs.YthlfclnfkgiddaaDoor.readNum
set_option linter.unusedVariables false
open Go Go.Lib
open Go.Proofs.YthlfclnfkgiddaaDoor.decNum Go.Proofs.YthlfclnfkgiddaaDoor.textNum

theorem dig_nat (d : Nat) (h : d < 10) : (UInt8.ofNat (48 + d)).toNat = 48 + d := by
  rw [UInt8.toNat_ofNat']; omega
theorem pu_dec (M u : Nat) (hM : u ≤ M) (hu : u / 10 < 1844674407370955162) (t : List UInt8) : parseUintM M 0 (decDigits u ++ t) = parseUintM M u t := by
  induction u using Nat.strongRecOn generalizing t with
  | ind u ih =>
    conv => lhs; unfold decDigits
    by_cases h : u < 10
    · rw [dif_pos h, List.cons_append, List.nil_append]
      show (if 48 ≤ (UInt8.ofNat (48 + u)).toNat ∧ (UInt8.ofNat (48 + u)).toNat ≤ 57 then _ else _) = _
      rw [dig_nat u h, if_pos (by omega), if_neg (by omega), if_neg (by omega)]
      congr 1; omega
    · rw [dif_neg h, List.append_assoc, List.cons_append, List.nil_append, ih (u / 10) (by omega) (by omega) (by omega)]
      show (if 48 ≤ (UInt8.ofNat (48 + u % 10)).toNat ∧ (UInt8.ofNat (48 + u % 10)).toNat ≤ 57 then _ else _) = _
      rw [dig_nat _ (Nat.mod_lt _ (by omega)), if_pos (by omega), if_neg (by omega), if_neg (by omega)]
      congr 1; omega
/-- The model's value of the digits among bytes. -/
def sv (acc : Nat) : List UInt8 → Nat
  | [] => acc
  | c :: r => sv (if 48 ≤ c.toNat ∧ c.toNat ≤ 57 then 10 * acc + (c.toNat - 48) else acc) r
theorem sv_dec (u : Nat) (t : List UInt8) : sv 0 (decDigits u ++ t) = sv u t := by
  induction u using Nat.strongRecOn generalizing t with
  | ind u ih =>
    conv => lhs; unfold decDigits
    by_cases h : u < 10
    · rw [dif_pos h, List.cons_append, List.nil_append]
      show sv (if 48 ≤ (UInt8.ofNat (48 + u)).toNat ∧ (UInt8.ofNat (48 + u)).toNat ≤ 57 then _ else _) t = _
      rw [dig_nat u h, if_pos (by omega)]
      congr 1; omega
    · rw [dif_neg h, List.append_assoc, List.cons_append, List.nil_append, ih (u / 10) (by omega)]
      show sv (if 48 ≤ (UInt8.ofNat (48 + u % 10)).toNat ∧ (UInt8.ofNat (48 + u % 10)).toNat ≤ 57 then _ else _) t = _
      rw [dig_nat _ (Nat.mod_lt _ (by omega)), if_pos (by omega)]
      congr 1; omega
theorem sv_snoc (acc : Nat) (l : List UInt8) (c : UInt8) : sv acc (l ++ [c]) = if 48 ≤ c.toNat ∧ c.toNat ≤ 57 then 10 * sv acc l + (c.toNat - 48) else sv acc l := by
  induction l generalizing acc with
  | nil => rfl
  | cons a l ih => exact ih _
theorem sv_lt (l : List UInt8) : sv 0 l < 10 ^ l.length := by
  suffices h : ∀ (k : Nat) (l : List UInt8), l.length = k → sv 0 l < 10 ^ k from h _ l rfl
  intro k
  induction k with
  | zero =>
    intro l hl
    have : l = [] := List.length_eq_zero_iff.1 hl
    subst this; decide
  | succ k ih =>
    intro l hl
    have hne : l ≠ [] := by intro e; subst e; simp at hl
    obtain ⟨l', c, rfl⟩ : ∃ l' c, l = l' ++ [c] := ⟨l.dropLast, l.getLast hne, (List.dropLast_concat_getLast hne).symm⟩
    have h := ih l' (by simp at hl; omega)
    rw [sv_snoc, Nat.pow_succ]
    split <;> omega
theorem dec_ne (u : Nat) : decDigits u ≠ [] := by
  unfold decDigits; split <;> simp
theorem dec_head (u : Nat) : ∃ c r, decDigits u = c :: r ∧ 48 ≤ c.toNat ∧ c.toNat ≤ 57 := by
  induction u using Nat.strongRecOn with
  | ind u ih =>
    unfold decDigits
    by_cases h : u < 10
    · rw [dif_pos h]
      exact ⟨_, _, rfl, by rw [dig_nat u h]; omega, by rw [dig_nat u h]; omega⟩
    · rw [dif_neg h]
      obtain ⟨c, r, e, h1, h2⟩ := ih (u / 10) (by omega)
      exact ⟨c, r ++ [_], by rw [e]; rfl, h1, h2⟩
/-- What the model reads. -/
def mv_ (l : List UInt8) : Int := if l.head? = some 45 then -(sv 0 l : Int) else sv 0 l
theorem mv_itoa (n : Int) : mv_ (itoa n) = n := by
  unfold mv_ itoa
  by_cases h : n < 0
  · rw [if_pos h]
    simp only [List.head?_cons, if_true]
    have e : sv 0 (45 :: decDigits n.natAbs) = n.natAbs := by
      show sv (if 48 ≤ (45 : UInt8).toNat ∧ (45 : UInt8).toNat ≤ 57 then _ else 0) (decDigits n.natAbs) = _
      rw [if_neg (by decide)]
      have := sv_dec n.natAbs []
      rw [List.append_nil] at this
      rw [this]; rfl
    rw [e]; omega
  · rw [if_neg h]
    obtain ⟨c, r, e, h1, h2⟩ := dec_head n.toNat
    have hc : (decDigits n.toNat).head? ≠ some 45 := by
      rw [e]; simp only [List.head?_cons, ne_eq, Option.some.injEq]
      intro q; subst q; revert h1; decide
    rw [if_neg hc]
    have := sv_dec n.toNat []
    rw [List.append_nil] at this
    rw [this]
    show ((n.toNat : Nat) : Int) = n
    omega
theorem pi_itoa (n : Int) (h : okN n = true) : parseIntB 64 (itoa n) = .ok n := by
  obtain ⟨y1, y2⟩ := okN_yes h
  unfold itoa
  by_cases hn : n < 0
  · rw [if_pos hn]
    have hu := pu_dec (2 ^ 64 - 1) n.natAbs (by omega) (by omega) []
    rw [List.append_nil] at hu
    unfold parseIntB
    simp only
    rw [if_pos (by right; decide)]
    unfold parseUintB
    rw [if_neg (dec_ne _), hu]
    show (if _ then NumEnd.range else if _ then NumEnd.range else NumEnd.ok _) = _
    rw [if_neg (fun q => q.1 (by decide)), if_neg (fun q => by have := q.2; omega), if_pos (by decide)]
    congr 1; omega
  · rw [if_neg hn]
    obtain ⟨c, r, e, h1, h2⟩ := dec_head n.toNat
    have hu := pu_dec (2 ^ 64 - 1) n.toNat (by omega) (by omega) []
    rw [List.append_nil] at hu
    have hne := dec_ne n.toNat
    rw [e] at hu hne ⊢
    unfold parseIntB
    simp only
    rw [if_neg (by omega)]
    unfold parseUintB
    rw [if_neg hne, hu]
    show (if _ then NumEnd.range else if _ then NumEnd.range else NumEnd.ok _) = _
    rw [if_neg (fun q => by have := q.2; omega), if_neg (fun q => by have := q.1; omega), if_neg (by omega)]
    congr 1; omega
theorem itoa_17 (n : Int) (h : okN n = true) : 1 ≤ (itoa n).length ∧ (itoa n).length ≤ 17 := by
  obtain ⟨y1, y2⟩ := okN_yes h
  unfold itoa
  split
  · have := dd_len n.natAbs 16 (by omega) (by omega)
    simp; omega
  · have := dd_len n.toNat 16 (by omega) (by omega)
    have := List.length_pos_iff.2 (dec_ne n.toNat)
    omega
/-- ReadDecimal, told. -/
def readT (l : List UInt8) : Int × Bool := if okN (mv_ l) = true ∧ itoa (mv_ l) = l then (mv_ l, true) else (0, false)
theorem readT_is {l : List UInt8} {n : Int} (h : okN n = true) (e : itoa n = l) : readT l = (n, true) := by
  subst e; unfold readT; rw [mv_itoa, if_pos ⟨h, rfl⟩]
theorem readT_no {l : List UInt8} (h : ∀ n, okN n = true → itoa n ≠ l) : readT l = (0, false) := by
  unfold readT; rw [if_neg (fun q => h _ q.1 q.2)]
theorem readT_pi {l : List UInt8} (h : ∀ v, parseIntB 64 l ≠ .ok v) : readT l = (0, false) := readT_no fun n hn e => h n (by rw [← e]; exact pi_itoa n hn)
theorem readT_ok {l : List UInt8} {v : Int} (h : parseIntB 64 l = .ok v) (hv : ¬ (okN v = true ∧ itoa v = l)) : readT l = (0, false) := readT_no fun n hn e => hv (by
  have h2 := pi_itoa n hn
  rw [e, h] at h2
  injection h2 with h2
  subst h2
  exact ⟨hn, e⟩)
theorem readT_long {l : List UInt8} (h : l.length < 1 ∨ 17 < l.length) : readT l = (0, false) := readT_no fun n hn e => by
  have := itoa_17 n hn
  rw [e] at this
  omega
theorem pi_bound {l : List UInt8} {v : Int} (h : parseIntB 64 l = .ok v) : -9223372036854775808 ≤ v ∧ v ≤ 9223372036854775807 := by
  unfold parseIntB at h
  split at h
  · cases h
  · simp only at h
    split at h
    · cases h
    · cases h
    · rename_i u _
      split at h
      · cases h
      · split at h
        · cases h
        · rename_i h1 h2
          injection h with h
          subst h
          split
          · rename_i hn
            have : ¬ 2 ^ (64 - 1) < u := fun q => h2 ⟨hn, q⟩
            omega
          · rename_i hn
            have : ¬ 2 ^ (64 - 1) ≤ u := fun q => h1 ⟨hn, q⟩
            omega

end Go.Proofs.YthlfclnfkgiddaaDoor.readNum
