/- A ruler is told by the differences of its pairs, none of which comes twice. -/
import Derived.Test.YtpmjheofjmdfeaaRows
import Derived.Test.YtpmjheofjmdfeaaSlc
import Derived.Test.YtpmjheofjmdfeaaSmall
import Derived.Test.YtpmjheofjmdfeaaListI
import Derived.Test.YtpmjheofjmdfeaaMarks
import Derived.Test.YtpmjheofjmdfeaaPut
import Derived.Test.YtpmjheofjmdfeaaDiff
import Derived.Test.YtpmjheofjmdfeaaISet
import Derived.Test.YtpmjheofjmdfeaaISize
import Derived.Test.YtpmjheofjmdfeaaHoles
import Derived.Test.YtpmjheofjmdfeaaRuler
import Derived.Test.YtpmjheofjmdfeaaSearch
import Derived.WalkKit
import Derived.ProofKit
import Derived.OpenShut
import Derived.ShutString
import Derived.ChangeOld
import Derived.Below
import Derived.Lib.Hide
import Derived.BigQuiet
import Derived.Deep.QuietTactic
import Derived.WalkLawsBesides
import Derived.Outline
namespace Go.Proofs.Ytpmjheofjmdfeaa.rulN
open Go.ChangeShapes Go.WideShapes Go.ChangeAt Go.RowKit
open Go.ChangeMaps (open_string shut_string)
set_option linter.unusedVariables false
open Go Go.RowKit
open Go.Proofs.Ytpmjheofjmdfeaa.marks Go.Proofs.Ytpmjheofjmdfeaa.put Go.Proofs.Ytpmjheofjmdfeaa.diff Go.Proofs.Ytpmjheofjmdfeaa.iSize Go.Proofs.Ytpmjheofjmdfeaa.holes Go.Proofs.Ytpmjheofjmdfeaa.ruler Go.Proofs.Ytpmjheofjmdfeaa.search

/-- The differences of pairs, in order. -/
def pq (xs : List Int) (i k : Nat) : List Int := ((List.range i).flatMap fun a => (List.range a).map fun b => dif xs a b) ++ (List.range k).map fun b => dif xs i b
theorem pq_next (xs : List Int) (i k : Nat) : pq xs i (k + 1) = pq xs i k ++ [dif xs i k] := by simp [pq, List.range_succ]
theorem pq_row (xs : List Int) (i : Nat) : pq xs i i = pq xs (i + 1) 0 := by simp [pq, List.range_succ]
theorem pq_len (xs : List Int) (i : Nat) : 2 * (pq xs i 0).length = i * (i - 1) := by
  have h : ∀ (i k : Nat), (pq xs i k).length = (pq xs i 0).length + k := by
    intro i k
    induction k with
    | zero => rfl
    | succ k ih => rw [pq_next, List.length_append, ih]; rfl
  induction i with
  | zero => rfl
  | succ i ih =>
    rw [← pq_row, h, Nat.mul_add, ih]
    cases i with
    | zero => rfl
    | succ i =>
      simp only [Nat.add_sub_cancel]
      rw [Nat.mul_comm (i + 1) i, ← Nat.add_mul, Nat.mul_comm]
theorem dif_pos' {xs : List Int} (h : xs.Pairwise (· < ·)) {a b : Nat} (ha : a < xs.length) (hb : b < a) : 0 < dif xs a b := by
  rw [dif_at xs a b ha (by omega)]
  have := List.pairwise_iff_getElem.1 h b a (by omega) ha hb
  omega
theorem dif_self (xs : List Int) (a : Nat) : dif xs a a = 0 := by simp [dif]
theorem nodup_snoc {l : List Int} {d : Int} : (l ++ [d]).Nodup ↔ l.Nodup ∧ d ∉ l := by
  rw [List.nodup_append]
  constructor
  · rintro ⟨h1, _, h3⟩
    exact ⟨h1, fun h => h3 d h d (by simp) rfl⟩
  · rintro ⟨h1, h2⟩
    exact ⟨h1, by simp, fun a ha b hb e => by rw [List.mem_singleton.1 hb] at e; subst e; exact h2 ha⟩
structure Inv (xs : List Int) (i k : Nat) : Prop where
  zero : (0 : Int) ∈ dl xs i k
  mem : ∀ y, y ∈ dl xs i k ↔ (y = 0 ∨ y ∈ pq xs i k)
  le : (dl xs i k).length ≤ 1 + (pq xs i k).length
  iff : (dl xs i k).length = 1 + (pq xs i k).length ↔ (pq xs i k).Nodup
theorem inv_k {xs : List Int} (hp : xs.Pairwise (· < ·)) {i : Nat} (hi : i < xs.length) (h0 : Inv xs i 0) : ∀ k, k ≤ i → Inv xs i k
  | 0, _ => h0
  | k + 1, hk => by
    obtain ⟨a, b, c, d⟩ := inv_k hp hi h0 k (by omega)
    have hd := dif_pos' hp hi (show k < i by omega)
    have hs := put_length (dif xs i k) (dl xs i k) (dl_rises xs i k)
    have hm : dif xs i k ∈ dl xs i k ↔ dif xs i k ∈ pq xs i k := by rw [b]; constructor; (rintro (h | h); omega; exact h); exact .inr
    refine ⟨?_, fun y => ?_, ?_, ?_⟩
    · rw [dl_next, put_mem]; exact .inr a
    · rw [dl_next, put_mem, b, pq_next, List.mem_append, List.mem_singleton]
      constructor
      · rintro (h | h | h)
        · exact .inr (.inr h)
        · exact .inl h
        · exact .inr (.inl h)
      · rintro (h | h | h)
        · exact .inr (.inl h)
        · exact .inr (.inr h)
        · exact .inl h
    · rw [dl_next, hs, pq_next, List.length_append]
      split <;> simp <;> omega
    · rw [dl_next, hs, pq_next, List.length_append, nodup_snoc]
      by_cases h : dif xs i k ∈ dl xs i k
      · rw [if_pos h]
        constructor
        · intro e; simp at e; omega
        · intro e; exact absurd (hm.1 h) e.2
      · rw [if_neg h]
        constructor
        · intro e
          exact ⟨d.1 (by simp at e; omega), fun h2 => h (hm.2 h2)⟩
        · intro e
          have := d.2 e.1
          simp
          omega
theorem inv_row {xs : List Int} (hp : xs.Pairwise (· < ·)) : ∀ i, 1 ≤ i → i ≤ xs.length → Inv xs i 0
  | 0, h, _ => absurd h (by omega)
  | 1, _, h => by
    have e : dl xs 1 0 = [0] := by
      rw [← dl_row, dl_next, dif_self]
      rfl
    have e2 : pq xs 1 0 = [] := rfl
    exact ⟨by rw [e]; simp, fun y => by rw [e, e2]; simp, by rw [e, e2]; simp, by rw [e, e2]; simp⟩
  | i + 2, _, h => by
    obtain ⟨a, b, c, d⟩ := inv_k hp (show i + 1 < xs.length by omega) (inv_row hp (i + 1) (by omega) (by omega)) (i + 1) (Nat.le_refl _)
    have e : dl xs (i + 2) 0 = put 0 (dl xs (i + 1) (i + 1)) := by rw [← dl_row, dl_next, dif_self]
    have hs := put_length 0 (dl xs (i + 1) (i + 1)) (dl_rises xs (i + 1) (i + 1))
    rw [if_pos a] at hs
    have e2 : pq xs (i + 2) 0 = pq xs (i + 1) (i + 1) := (pq_row xs (i + 1)).symm
    refine ⟨by rw [e, put_mem]; exact .inl rfl, fun y => ?_, by rw [e, hs, e2]; exact c, by rw [e, hs, e2]; exact d⟩
    rw [e, put_mem, b, e2]
    constructor
    · rintro (h | h | h)
      · exact .inl h
      · exact .inl h
      · exact .inr h
    · rintro (h | h)
      · exact .inl h
      · exact .inr (.inr h)
theorem rB_iff {xs : List Int} (hp : xs.Pairwise (· < ·)) (h1 : 1 ≤ xs.length) : rB xs = true ↔ (pq xs xs.length 0).Nodup := by
  obtain ⟨_, _, c, d⟩ := inv_row hp xs.length h1 (Nat.le_refl _)
  have hl := pq_len xs xs.length
  rw [← d]
  unfold rB D
  rw [decide_eq_true_iff]
  have hpr : pairs xs.length = ((pq xs xs.length 0).length : Int) := by
    unfold pairs
    have : (xs.length : Int) * ((xs.length : Int) - 1) = 2 * ((pq xs xs.length 0).length : Int) := by
      have h2 : ((xs.length * (xs.length - 1) : Nat) : Int) = (xs.length : Int) * ((xs.length : Int) - 1) := by
        rw [Int.natCast_mul, Int.natCast_sub h1]; rfl
      rw [← h2, ← hl]
      rfl
    rw [this, Int.mul_tdiv_cancel_left _ (by decide)]
  rw [hpr]
  omega
/-- A rising list from lo to hi is no longer than these are many. -/
theorem rise_len : ∀ (l : List Int) (lo hi : Int), l.Pairwise (· < ·) → (∀ x ∈ l, lo ≤ x ∧ x ≤ hi) → (l.length : Int) ≤ max 0 (hi - lo + 1)
  | [], _, _, _, _ => by simp; omega
  | x :: l, lo, hi, hp, hb => by
    rw [List.pairwise_cons] at hp
    have hx := hb x (by simp)
    have ih := rise_len l (x + 1) hi hp.2 (fun y hy => ⟨by have := hp.1 y hy; omega, (hb y (by simp [hy])).2⟩)
    simp only [List.length_cons, Int.natCast_add]
    omega
/-- No ruler is shorter than it has pairs. -/
theorem ruler_long {xs : List Int} {last : Int} (hg : GoodM last xs) (h16 : xs.length ≤ 16) (hl : last ≤ 4096) (hr : rB xs = true) : pairs xs.length ≤ last := by
  obtain ⟨g1, g2, g3⟩ := hg
  have hv : mB xs = true := decide_eq_true ⟨g1, h16, fun x hx => ⟨(g3 x hx).1, by have := (g3 x hx).2; omega⟩, g2⟩
  have h1 : ((D xs).length : Int) = pairs xs.length + 1 := of_decide_eq_true hr
  have h2 := rise_len (D xs) 0 last (dl_rises xs xs.length 0) (fun y hy => by
    obtain ⟨a, b, ha, hb, rfl⟩ := (D_mem y).1 hy
    have hbl : b < xs.length := by omega
    rw [dif_at xs a b ha hbl]
    have h3 := g3 _ (List.getElem_mem ha)
    have h4 := g3 _ (List.getElem_mem hbl)
    have h5 := rises_le g2 b a hbl ha hb
    omega)
  have h3 := (pairs_bd xs.length g1 h16).1
  have h4 := (g3 _ (end_mem g1))
  omega

end Go.Proofs.Ytpmjheofjmdfeaa.rulN
