/- The load of beams, plainly. -/
import Derived.Test.YtkjmlpdbnnmlhaaRows
import Derived.Test.YtkjmlpdbnnmlhaaSlc
import Derived.Test.YtkjmlpdbnnmlhaaSmall
import Derived.Test.YtkjmlpdbnnmlhaaPlanNum
namespace Go.Proofs.Ytkjmlpdbnnmlhaa.loadNum
set_option linter.unusedVariables false
open Go Go.RowKit
open Go.Proofs.Ytkjmlpdbnnmlhaa.slc Go.Proofs.Ytkjmlpdbnnmlhaa.small Go.Proofs.Ytkjmlpdbnnmlhaa.planNum
set_option linter.unusedVariables false

def dn (bs : List Bm) (k : Nat) : Nat := (dw bs k).toNat
def en (bs : List Bm) (k : Nat) : Nat := (ev bs k).toNat
/-- The least common multiple of a denominator and an Every. -/
def ml (b e : Nat) : Nat := b / Nat.gcd b e * e
def tp (t b d e : Nat) : Nat := ml b e / b * t + ml b e / e * d
/-- The sum of the first k shares. -/
def lds (bs : List Bm) : Nat → Option (Nat × Nat)
  | 0 => some (0, 1)
  | k + 1 => match lds bs k with
    | none => none
    | some (t, b) => if 1000000000000 < ml b (en bs k) then none
      else some (tp t b (dn bs k) (en bs k) / Nat.gcd (tp t b (dn bs k) (en bs k)) (ml b (en bs k)), ml b (en bs k) / Nat.gcd (tp t b (dn bs k) (en bs k)) (ml b (en bs k)))
theorem lds_none {bs : List Bm} {k : Nat} (h : lds bs k = none) : ∀ n, k ≤ n → lds bs n = none
  | 0, hn => by
    have : k = 0 := by omega
    subst this
    exact h
  | n + 1, hn => by
    by_cases e : k = n + 1
    · subst e; exact h
    · show (match lds bs n with | none => none | some (t, b) => _) = none
      rw [lds_none h n (by omega)]
theorem lds_step {bs : List Bm} {k t b : Nat} (h : lds bs k = some (t, b)) : lds bs (k + 1) = if 1000000000000 < ml b (en bs k) then none
      else some (tp t b (dn bs k) (en bs k) / Nat.gcd (tp t b (dn bs k) (en bs k)) (ml b (en bs k)), ml b (en bs k) / Nat.gcd (tp t b (dn bs k) (en bs k)) (ml b (en bs k))) := by
  show (match lds bs k with | none => none | some (t, b) => _) = _
  rw [h]
/-- What LoadOf returns. -/
def ld (bs : List Bm) : Nat × Nat × Bool := if ab bs = true then (match lds bs bs.length with | none => (0, 0, false) | some (t, b) => (t, b, true)) else (0, 0, false)

theorem ml_e (b e : Nat) (he : 0 < e) : ml b e / e = b / Nat.gcd b e := by unfold ml; rw [Nat.mul_div_cancel _ he]
theorem ml_alt (b e : Nat) : ml b e = b * (e / Nat.gcd b e) := by
  unfold ml
  rw [Nat.div_mul_right_comm (Nat.gcd_dvd_left b e), Nat.mul_div_assoc _ (Nat.gcd_dvd_right b e)]
theorem ml_b (b e : Nat) (hb : 0 < b) : ml b e / b = e / Nat.gcd b e := by rw [ml_alt, Nat.mul_div_cancel_left _ hb]
theorem ml_pos (b e : Nat) (hb : 0 < b) (he : 0 < e) : 0 < ml b e := by
  unfold ml
  exact Nat.mul_pos (Nat.div_pos (Nat.le_of_dvd hb (Nat.gcd_dvd_left b e)) (Nat.gcd_pos_of_pos_left _ hb)) he
theorem tp_alt (t b d e : Nat) (hb : 0 < b) (he : 0 < e) : tp t b d e = t * (e / Nat.gcd b e) + d * (b * (e / Nat.gcd b e) / e) := by
  unfold tp
  rw [ml_b b e hb, ← ml_alt, Nat.mul_comm _ t, Nat.mul_comm _ d]
theorem tp_le (t b d e k : Nat) (hb : 0 < b) (he : 0 < e) (hd : d ≤ e) (ht : t ≤ k * b) : tp t b d e ≤ (k + 1) * ml b e := by
  unfold tp
  have h1 : ml b e / b * t ≤ ml b e / b * (k * b) := Nat.mul_le_mul_left _ ht
  have h2 : ml b e / e * d ≤ ml b e / e * e := Nat.mul_le_mul_left _ hd
  have h3 : ml b e / b * b ≤ ml b e := Nat.div_mul_le_self _ _
  have h4 : ml b e / e * e ≤ ml b e := Nat.div_mul_le_self _ _
  have h5 : ml b e / b * (k * b) = k * (ml b e / b * b) := by rw [Nat.mul_left_comm]
  have h6 : k * (ml b e / b * b) ≤ k * ml b e := Nat.mul_le_mul_left _ h3
  rw [Nat.add_mul, Nat.one_mul]
  omega
theorem div_le {t m k g : Nat} (h : t ≤ k * m) (hg : g ∣ m) (hm : 0 < m) : t / g ≤ k * (m / g) := by
  obtain ⟨q, rfl⟩ := hg
  have hg0 : 0 < g := Nat.pos_of_ne_zero fun e => by subst e; simp at hm
  rw [Nat.mul_div_cancel_left _ hg0]
  have : t ≤ k * q * g := by rw [Nat.mul_assoc, Nat.mul_comm q g]; exact h
  exact Nat.div_le_of_le_mul (by rw [Nat.mul_comm]; exact this)
/-- What holds of the sum of the first k shares. -/
structure Ok (k t b : Nat) : Prop where
  pos : 1 ≤ b
  top : b ≤ 1000000000000
  le : t ≤ k * b
theorem Ok.zero : Ok 0 0 1 := ⟨by decide, by decide, by decide⟩
theorem Ok.succ {k t b d e : Nat} (h : Ok k t b) (he : 0 < e) (hd : d ≤ e) (hm : ml b e ≤ 1000000000000) :
    Ok (k + 1) (tp t b d e / Nat.gcd (tp t b d e) (ml b e)) (ml b e / Nat.gcd (tp t b d e) (ml b e)) := by
  have hp := ml_pos b e h.pos he
  have hg : 0 < Nat.gcd (tp t b d e) (ml b e) := Nat.gcd_pos_of_pos_right _ hp
  exact ⟨Nat.div_pos (Nat.le_of_dvd hp (Nat.gcd_dvd_right _ _)) hg, Nat.le_trans (Nat.div_le_self _ _) hm, div_le (tp_le t b d e k h.pos he hd h.le) (Nat.gcd_dvd_right _ _) hp⟩
theorem Ok.bd {k t b d e : Nat} (h : Ok k t b) (he : 0 < e) (hd : d ≤ e) (he4 : e ≤ 10000) (hk : k < 7) :
    t ≤ 7000000000000 ∧ ml b e ≤ 10000000000000000 ∧ ml b e / b ≤ 10000 ∧ b / Nat.gcd b e ≤ 1000000000000 ∧ (ml b e ≤ 1000000000000 → ml b e / b * t ≤ 7000000000000 ∧ ml b e / e * d ≤ 1000000000000 ∧ tp t b d e ≤ 7000000000000) := by
  have h1 := h.top
  have h0 := h.pos
  have h2 := h.le
  have h3 : k * b ≤ 6 * b := Nat.mul_le_mul_right _ (by omega)
  have h4 : b / Nat.gcd b e ≤ b := Nat.div_le_self _ _
  have h5 : b / Nat.gcd b e * e ≤ 1000000000000 * 10000 := Nat.mul_le_mul (by omega) he4
  have h6 : ml b e / b ≤ e := by rw [ml_b b e h0]; exact Nat.div_le_self _ _
  refine ⟨by omega, h5, by omega, by omega, fun hm => ?_⟩
  have t1 := tp_le t b d e k h0 he hd h2
  have t2 : (k + 1) * ml b e ≤ 7 * ml b e := Nat.mul_le_mul_right _ (by omega)
  have t3 : tp t b d e = ml b e / b * t + ml b e / e * d := rfl
  have t4 : ml b e / e * d ≤ ml b e / e * e := Nat.mul_le_mul_left _ hd
  have t5 : ml b e / e * e ≤ ml b e := Nat.div_mul_le_self _ _
  exact ⟨by omega, by omega, by omega⟩
theorem nums {bs : List Bm} (h : ab bs = true) {k : Nat} (hk : k < bs.length) : (dw bs k = (dn bs k : Int)) ∧ (ev bs k = (en bs k : Int)) ∧ 1 ≤ dn bs k ∧ dn bs k ≤ en bs k ∧ en bs k ≤ 10000 := by
  have := ab_num h hk
  unfold dn en dw ev
  omega

end Go.Proofs.Ytkjmlpdbnnmlhaa.loadNum
