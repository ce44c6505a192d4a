/- Missed jobs, plainly. -/
import Derived.Test.YtkjmlpdbnnmlhaaRows
import Derived.Test.YtkjmlpdbnnmlhaaSlc
import Derived.Test.YtkjmlpdbnnmlhaaSmall
import Derived.Test.YtkjmlpdbnnmlhaaPlanNum
namespace Go.Proofs.Ytkjmlpdbnnmlhaa.missNum
set_option linter.unusedVariables false
open Go Go.RowKit
open Go.Proofs.Ytkjmlpdbnnmlhaa.slc Go.Proofs.Ytkjmlpdbnnmlhaa.small Go.Proofs.Ytkjmlpdbnnmlhaa.planNum
set_option linter.unusedVariables false

/-- The end of the slot k. -/
def fin (bs : List Bm) (ss : List Sl) (k : Nat) : Int := (sg ss k).2 + dw bs (sg ss k).1.toNat
/-- How many of the first k slots are of the beam j and have ended by u. -/
def don (bs : List Bm) (ss : List Sl) (u : Int) (j : Nat) : Nat → Nat
  | 0 => 0
  | k + 1 => don bs ss u j k + (if (sg ss k).1 = (j : Int) ∧ fin bs ss k ≤ u then 1 else 0)
def due (bs : List Bm) (ss : List Sl) (k : Nat) : Int := (cnt ss (sg ss k).1.toNat k + 1) * ev bs (sg ss k).1.toNat
/-- How many of the first k slots are of the beam j, are due by u and have ended by u. -/
def mis (bs : List Bm) (ss : List Sl) (u : Int) (j : Nat) : Nat → Nat
  | 0 => 0
  | k + 1 => mis bs ss u j k + (if (sg ss k).1 = (j : Int) ∧ (due bs ss k ≤ u ∧ fin bs ss k ≤ u) then 1 else 0)
theorem don_le (bs : List Bm) (ss : List Sl) (u : Int) (j : Nat) : ∀ k, don bs ss u j k ≤ k
  | 0 => Nat.le_refl _
  | k + 1 => by have := don_le bs ss u j k; unfold don; split <;> omega
theorem don_all (bs : List Bm) (ss : List Sl) (u : Int) (j : Nat) : ∀ k, (∀ i, i < k → (sg ss i).1 = (j : Int) → fin bs ss i ≤ u) → don bs ss u j k = cnt ss j k
  | 0, _ => rfl
  | k + 1, h => by
    have ih := don_all bs ss u j k fun i hi => h i (by omega)
    unfold don cnt
    rw [ih]
    by_cases e : (sg ss k).1 = (j : Int)
    · rw [if_pos ⟨e, h k (by omega) e⟩, if_pos e]
    · rw [if_neg (fun x => e x.1), if_neg e]
/-- In a plan, each slot begins behind the ends of those before it. -/
theorem fin_le {bs : List Bm} {ss : List Sl} (hab : ab bs = true) (h : ∀ k, k < ss.length → slotB bs ss k = true) : ∀ k, k < ss.length → ∀ i, i < k → fin bs ss i ≤ (sg ss k).2
  | 0, _, i, hi => by omega
  | k + 1, hk, i, hi => by
    have h1 := (slot_yes (h (k + 1) hk)).2.2
    unfold three at h1
    have h2 := of_decide_eq_true h1
    have h3 : (sg ss k).2 + dw bs (sg ss k).1.toNat + tu bs (sg ss k).1.toNat (sg ss (k + 1)).1.toNat ≤ (sg ss (k + 1)).2 := by
      rcases h2 with h2 | h2
      · omega
      · exact h2
    obtain ⟨j, t, e, hj, _⟩ := one_yes (slot_yes (h k (by omega))).1
    obtain ⟨j', t', e', hj', _⟩ := one_yes (slot_yes (h (k + 1) hk)).1
    have h4 : 0 ≤ tu bs (sg ss k).1.toNat (sg ss (k + 1)).1.toNat := by
      rw [e, e']
      exact (sw_bd (ab_bd hab (by simpa using hj)) (ab_bd hab (by simpa using hj'))).1
    have h5 : 1 ≤ dw bs (sg ss k).1.toNat := by
      rw [e]
      exact (ab_num hab (by simpa using hj)).1
    by_cases hik : i = k
    · subst hik
      unfold fin
      omega
    · have := fin_le hab h k (by omega) i (by omega)
      omega
theorem mis_min {bs : List Bm} {ss : List Sl} {u : Int} (h0 : 0 ≤ u) (hab : ab bs = true) (h : ∀ k, k < ss.length → slotB bs ss k = true) (j : Nat) (hj : j < bs.length) :
    ∀ k, k ≤ ss.length → (mis bs ss u j k : Int) = min (don bs ss u j k : Int) (u / ev bs j)
  | 0, _ => by
    have he : 1 ≤ ev bs j := by have := ab_num hab hj; unfold ev; omega
    have : 0 ≤ u / ev bs j := Int.ediv_nonneg h0 (by omega)
    unfold mis don
    omega
  | k + 1, hk => by
    have ih := mis_min h0 hab h j hj k (by omega)
    have he : 1 ≤ ev bs j := by have := ab_num hab hj; unfold ev; omega
    unfold mis don
    by_cases e : (sg ss k).1 = (j : Int)
    · by_cases hf : fin bs ss k ≤ u
      · have hd : don bs ss u j k = cnt ss j k := don_all bs ss u j k fun i hi _ => by
          have h1 := fin_le hab h k (by omega) i hi
          have h2 : 1 ≤ dw bs (sg ss k).1.toNat := by
            rw [e]
            exact (ab_num hab (by simpa using hj)).1
          unfold fin at hf
          omega
        have hdue : due bs ss k = ((cnt ss j k : Int) + 1) * ev bs j := by unfold due; rw [e]; rfl
        have hiff : due bs ss k ≤ u ↔ (cnt ss j k : Int) + 1 ≤ u / ev bs j := by
          rw [hdue]
          exact (Int.le_ediv_iff_mul_le (by omega)).symm
        rw [if_pos (show (sg ss k).1 = (j : Int) ∧ fin bs ss k ≤ u from ⟨e, hf⟩)]
        by_cases hq : (cnt ss j k : Int) + 1 ≤ u / ev bs j
        · rw [if_pos ⟨e, hiff.2 hq, hf⟩]
          omega
        · rw [if_neg (fun x => hq (hiff.1 x.2.1))]
          omega
      · rw [if_neg (fun x => hf x.2.2), if_neg (fun x => hf x.2)]
        omega
    · rw [if_neg (fun x => e x.1), if_neg (fun x => e x.1)]
      omega
/-- What MissedOf returns of the beam j. -/
def ms (bs : List Bm) (ss : List Sl) (u : Int) (j : Nat) : Int := max 0 (u / ev bs j - don bs ss u j ss.length)
theorem ms_is {bs : List Bm} {ss : List Sl} {u : Int} (h0 : 0 ≤ u) (hab : ab bs = true) (h : ∀ k, k < ss.length → slotB bs ss k = true) (j : Nat) (hj : j < bs.length) :
    u / ev bs j - mis bs ss u j ss.length = ms bs ss u j := by
  have := mis_min h0 hab h j hj ss.length (Nat.le_refl _)
  unfold ms
  omega

end Go.Proofs.Ytkjmlpdbnnmlhaa.missNum
