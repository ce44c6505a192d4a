/- Numbers of shapes: the box of a grid, the least square. -/
import Derived.Test.YtdanlghaiekeaaaRows
import Derived.Test.YtdanlghaiekeaaaSlc
import Derived.Test.YtdanlghaiekeaaaSmall
import Derived.Test.YtdanlghaiekeaaaOpens
import Derived.Test.YtdanlghaiekeaaaPlaces
import Derived.Test.YtdanlghaiekeaaaPlaceSet
import Derived.Test.YtdanlghaiekeaaaListP
import Derived.Test.YtdanlghaiekeaaaGrid
import Derived.Test.YtdanlghaiekeaaaBox
import Derived.Test.YtdanlghaiekeaaaLeast
import Derived.Test.YtdanlghaiekeaaaLeast2
import Derived.WalkKit
import Derived.ProofKit
import Derived.OpenShut
import Derived.ShutString
import Derived.ChangeOld
import Derived.Below
import Derived.Lib.Hide
import Derived.BigQuiet
import Derived.Deep.QuietTactic
import Derived.WalkLawsBesides
import Derived.Outline
namespace Go.Proofs.Ytdanlghaiekeaaa.shapeNum
open Go.ChangeShapes Go.WideShapes Go.ChangeAt Go.RowKit
open Go.ChangeMaps (open_string shut_string)
set_option linter.unusedVariables false
open Go Go.RowKit
open Go.Proofs.Ytdanlghaiekeaaa.slc Go.Proofs.Ytdanlghaiekeaaa.small Go.Proofs.Ytdanlghaiekeaaa.opens Go.Proofs.Ytdanlghaiekeaaa.places Go.Proofs.Ytdanlghaiekeaaa.placeSet Go.Proofs.Ytdanlghaiekeaaa.listP Go.Proofs.Ytdanlghaiekeaaa.grid Go.Proofs.Ytdanlghaiekeaaa.box Go.Proofs.Ytdanlghaiekeaaa.least Go.Proofs.Ytdanlghaiekeaaa.least2

theorem mn_le (a b : Int) : mn a b ≤ a ∧ mn a b ≤ b ∧ (mn a b = a ∨ mn a b = b) := by unfold mn; split <;> omega
theorem mx_ge (a b : Int) : a ≤ mx a b ∧ b ≤ mx a b ∧ (mx a b = a ∨ mx a b = b) := by unfold mx; split <;> omega
def px (ps : List (Int × Int)) (j : Nat) : Int := (ps.getD j (0, 0)).1
def py (ps : List (Int × Int)) (j : Nat) : Int := (ps.getD j (0, 0)).2
theorem lx_lb (ps : List (Int × Int)) : ∀ k j, j < k → lx ps k ≤ px ps j
  | 0, _, h => absurd h (by omega)
  | k + 1, j, h => by
    have h1 := mn_le (lx ps k) (ps.getD k (0, 0)).1
    show mn (lx ps k) (ps.getD k (0, 0)).1 ≤ px ps j
    by_cases hj : j < k
    · have := lx_lb ps k j hj; omega
    · obtain rfl : j = k := by omega
      exact h1.2.1
theorem ly_lb (ps : List (Int × Int)) : ∀ k j, j < k → ly ps k ≤ py ps j
  | 0, _, h => absurd h (by omega)
  | k + 1, j, h => by
    have h1 := mn_le (ly ps k) (ps.getD k (0, 0)).2
    show mn (ly ps k) (ps.getD k (0, 0)).2 ≤ py ps j
    by_cases hj : j < k
    · have := ly_lb ps k j hj; omega
    · obtain rfl : j = k := by omega
      exact h1.2.1
theorem hx_ub (ps : List (Int × Int)) : ∀ k j, j < k → px ps j ≤ hx ps k
  | 0, _, h => absurd h (by omega)
  | k + 1, j, h => by
    have h1 := mx_ge (hx ps k) (ps.getD k (0, 0)).1
    show px ps j ≤ mx (hx ps k) (ps.getD k (0, 0)).1
    by_cases hj : j < k
    · have := hx_ub ps k j hj; omega
    · obtain rfl : j = k := by omega
      exact h1.2.1
theorem hy_ub (ps : List (Int × Int)) : ∀ k j, j < k → py ps j ≤ hy ps k
  | 0, _, h => absurd h (by omega)
  | k + 1, j, h => by
    have h1 := mx_ge (hy ps k) (ps.getD k (0, 0)).2
    show py ps j ≤ mx (hy ps k) (ps.getD k (0, 0)).2
    by_cases hj : j < k
    · have := hy_ub ps k j hj; omega
    · obtain rfl : j = k := by omega
      exact h1.2.1
theorem lx_in (ps : List (Int × Int)) : ∀ k, ∃ j, (j = 0 ∨ j < k) ∧ lx ps k = px ps j
  | 0 => ⟨0, .inl rfl, rfl⟩
  | k + 1 => by
    obtain ⟨j, h, e⟩ := lx_in ps k
    rcases (mn_le (lx ps k) (ps.getD k (0, 0)).1).2.2 with h1 | h1
    · exact ⟨j, by omega, h1.trans e⟩
    · exact ⟨k, by omega, h1⟩
theorem ly_in (ps : List (Int × Int)) : ∀ k, ∃ j, (j = 0 ∨ j < k) ∧ ly ps k = py ps j
  | 0 => ⟨0, .inl rfl, rfl⟩
  | k + 1 => by
    obtain ⟨j, h, e⟩ := ly_in ps k
    rcases (mn_le (ly ps k) (ps.getD k (0, 0)).2).2.2 with h1 | h1
    · exact ⟨j, by omega, h1.trans e⟩
    · exact ⟨k, by omega, h1⟩
theorem hx_in (ps : List (Int × Int)) : ∀ k, ∃ j, (j = 0 ∨ j < k) ∧ hx ps k = px ps j
  | 0 => ⟨0, .inl rfl, rfl⟩
  | k + 1 => by
    obtain ⟨j, h, e⟩ := hx_in ps k
    rcases (mx_ge (hx ps k) (ps.getD k (0, 0)).1).2.2 with h1 | h1
    · exact ⟨j, by omega, h1.trans e⟩
    · exact ⟨k, by omega, h1⟩
theorem hy_in (ps : List (Int × Int)) : ∀ k, ∃ j, (j = 0 ∨ j < k) ∧ hy ps k = py ps j
  | 0 => ⟨0, .inl rfl, rfl⟩
  | k + 1 => by
    obtain ⟨j, h, e⟩ := hy_in ps k
    rcases (mx_ge (hy ps k) (ps.getD k (0, 0)).2).2.2 with h1 | h1
    · exact ⟨j, by omega, h1.trans e⟩
    · exact ⟨k, by omega, h1⟩
/-- The places of a grid by their indices. -/
theorem gp_get (c : Nat) (dx dy : Int) : ∀ (k i j : Nat), i ≤ c → j < k * c + i → (gp c dx dy k i)[j]? = some (((j % c : Nat) : Int) * dx, ((j / c : Nat) : Int) * dy)
  | 0, 0, j, _, h => absurd h (by omega)
  | k + 1, 0, j, _, h => by
    rw [← gp_row]
    exact gp_get c dx dy k c j (Nat.le_refl _) (by rw [Nat.add_mul] at h; omega)
  | k, i + 1, j, hi, h => by
    rw [gp_next]
    by_cases hj : j < k * c + i
    · rw [List.getElem?_append_left (by rw [gp_len]; exact hj)]
      exact gp_get c dx dy k i j (by omega) hj
    · obtain rfl : j = k * c + i := by omega
      rw [List.getElem?_append_right (by rw [gp_len]; exact Nat.le_refl _), gp_len, Nat.sub_self]
      have h1 : (k * c + i) % c = i := by rw [Nat.mul_comm, Nat.mul_add_mod, Nat.mod_eq_of_lt (by omega)]
      have h2 : (k * c + i) / c = k := by rw [Nat.mul_comm, Nat.mul_add_div (by omega), Nat.div_eq_of_lt (by omega), Nat.add_zero]
      rw [h1, h2]
      rfl
termination_by k i => (k, i)
section
variable {c r : Nat} {dx dy : Int}
theorem gd (j : Nat) (h : j < r * c) : (gp c dx dy r 0).getD j (0, 0) = (((j % c : Nat) : Int) * dx, ((j / c : Nat) : Int) * dy) := by
  have := gp_get c dx dy r 0 j (Nat.zero_le _) h
  simp [List.getD, this]
theorem row_lt (h1 : 1 ≤ c) (j : Nat) (h : j < r * c) : j % c ≤ c - 1 ∧ j / c ≤ r - 1 := by
  have a := Nat.mod_lt j (show 0 < c by omega)
  have b : j / c < r := Nat.div_lt_of_lt_mul (by rw [Nat.mul_comm]; exact h)
  omega
theorem mul_mono {a b : Nat} {d : Int} (h : a ≤ b) (hd : 0 ≤ d) : 0 ≤ (a : Int) * d ∧ (a : Int) * d ≤ (b : Int) * d :=
  ⟨Int.mul_nonneg (by omega) hd, Int.mul_le_mul_of_nonneg_right (by omega) hd⟩
theorem grid_box (h1 : 1 ≤ c) (h2 : 1 ≤ r) (d1 : 1 ≤ dx) (d2 : 1 ≤ dy) : lx (gp c dx dy r 0) (r * c) = 0 ∧ ly (gp c dx dy r 0) (r * c) = 0 ∧ hx (gp c dx dy r 0) (r * c) = ((c : Int) - 1) * dx ∧ hy (gp c dx dy r 0) (r * c) = ((r : Int) - 1) * dy := by
  have hrc : 1 ≤ r * c := Nat.mul_le_mul h2 h1
  have key : ∀ j, j < r * c → 0 ≤ px (gp c dx dy r 0) j ∧ px (gp c dx dy r 0) j ≤ ((c - 1 : Nat) : Int) * dx ∧ 0 ≤ py (gp c dx dy r 0) j ∧ py (gp c dx dy r 0) j ≤ ((r - 1 : Nat) : Int) * dy := by
    intro j hj
    obtain ⟨a, b⟩ := row_lt h1 j hj
    unfold px py
    rw [gd j hj]
    obtain ⟨x1, x2⟩ := mul_mono (d := dx) a (by omega)
    obtain ⟨y1, y2⟩ := mul_mono (d := dy) b (by omega)
    exact ⟨x1, x2, y1, y2⟩
  have e1 : ((c - 1 : Nat) : Int) = (c : Int) - 1 := by omega
  have e2 : ((r - 1 : Nat) : Int) = (r : Int) - 1 := by omega
  rw [e1, e2] at key
  have z0 : px (gp c dx dy r 0) 0 = 0 ∧ py (gp c dx dy r 0) 0 = 0 := by
    unfold px py
    rw [gd 0 (by omega)]
    simp
  have hc1 : c - 1 < r * c := Nat.lt_of_lt_of_le (by omega) (Nat.le_mul_of_pos_left c (by omega))
  have zx : px (gp c dx dy r 0) (c - 1) = ((c : Int) - 1) * dx := by
    unfold px
    rw [gd (c - 1) hc1, Nat.mod_eq_of_lt (by omega), e1]
  have hr1 : (r - 1) * c < r * c := Nat.mul_lt_mul_of_pos_right (by omega) (by omega)
  have zy : py (gp c dx dy r 0) ((r - 1) * c) = ((r : Int) - 1) * dy := by
    unfold py
    rw [gd _ hr1, Nat.mul_div_cancel _ (by omega), e2]
  refine ⟨?_, ?_, ?_, ?_⟩
  · obtain ⟨j, hj, e⟩ := lx_in (gp c dx dy r 0) (r * c)
    have a := lx_lb (gp c dx dy r 0) (r * c) 0 (by omega)
    have b := key j (by omega)
    omega
  · obtain ⟨j, hj, e⟩ := ly_in (gp c dx dy r 0) (r * c)
    have a := ly_lb (gp c dx dy r 0) (r * c) 0 (by omega)
    have b := key j (by omega)
    omega
  · obtain ⟨j, hj, e⟩ := hx_in (gp c dx dy r 0) (r * c)
    have a := hx_ub (gp c dx dy r 0) (r * c) (c - 1) hc1
    have b := key j (by omega)
    omega
  · obtain ⟨j, hj, e⟩ := hy_in (gp c dx dy r 0) (r * c)
    have a := hy_ub (gp c dx dy r 0) (r * c) _ hr1
    have b := key j (by omega)
    omega
theorem mul_inj {a b d : Int} (hd : 1 ≤ d) (h : a * d = b * d) : a = b := Int.eq_of_mul_eq_mul_right (by omega) h
theorem grid_vp (h1 : 1 ≤ c) (h2 : 1 ≤ r) (h3 : c ≤ 4) (h4 : r ≤ 4) (d1 : 1 ≤ dx) (d2 : 1 ≤ dy) (d3 : dx ≤ 100) (d4 : dy ≤ 100) : vp (gp c dx dy r 0) = true := by
  have hlen : (gp c dx dy r 0).length = r * c := by rw [gp_len]; rfl
  have hrc : 1 ≤ r * c := Nat.mul_le_mul h2 h1
  have hrc2 : r * c ≤ 4 * 4 := Nat.mul_le_mul h4 h3
  have hget : ∀ j (hj : j < (gp c dx dy r 0).length), (gp c dx dy r 0)[j] = (((j % c : Nat) : Int) * dx, ((j / c : Nat) : Int) * dy) := fun j hj => by
    have := gp_get c dx dy r 0 j (Nat.zero_le _) (by omega)
    rw [List.getElem?_eq_getElem hj] at this
    exact Option.some.inj this
  refine vp_mk (by omega) (by omega) ?_ ?_
  · intro p hp
    obtain ⟨j, hj, rfl⟩ := List.mem_iff_getElem.1 hp
    rw [hget j hj]
    obtain ⟨a, b⟩ := row_lt (r := r) h1 j (by omega)
    obtain ⟨x1, x2⟩ := mul_mono (d := dx) (show j % c ≤ 3 by omega) (by omega)
    obtain ⟨y1, y2⟩ := mul_mono (d := dy) (show j / c ≤ 3 by omega) (by omega)
    refine decide_eq_true ?_
    dsimp only
    omega
  · refine List.pairwise_iff_getElem.2 ?_
    intro i j hi hj hij
    rw [hget i hi, hget j hj]
    intro e
    have ex := congrArg Prod.fst e
    have ey := congrArg Prod.snd e
    dsimp only at ex ey
    have ex := mul_inj d1 ex
    have ey := mul_inj d2 ey
    have a := Nat.div_add_mod i c
    have b := Nat.div_add_mod j c
    have ex' : i % c = j % c := by omega
    have ey' : i / c = j / c := by omega
    rw [ex', ey'] at a
    omega
end
theorem lim_le : ∀ (l : List Int) (a : Int), lim a l ≤ a ∧ ∀ x ∈ l, lim a l ≤ x
  | [], a => ⟨Int.le_refl _, fun _ h => nomatch h⟩
  | b :: l, a => by
    have h := lim_le l (min a b)
    have e : lim a (b :: l) = lim (min a b) l := rfl
    rw [e]
    refine ⟨by omega, fun x hx => ?_⟩
    rcases List.mem_cons.1 hx with rfl | hx
    · omega
    · exact h.2 x hx
theorem lim_in : ∀ (l : List Int) (a : Int), lim a l = a ∨ lim a l ∈ l
  | [], a => .inl rfl
  | b :: l, a => by
    have e : lim a (b :: l) = lim (min a b) l := rfl
    rw [e]
    rcases lim_in l (min a b) with h | h
    · rw [h]
      rcases (show min a b = a ∨ min a b = b by omega) with h1 | h1
      · exact .inl h1
      · exact .inr (by rw [h1]; exact List.mem_cons_self)
    · exact .inr (List.mem_cons_of_mem _ h)
theorem pr_at (ps : List (Int × Int)) (i k : Nat) (hk : k < i) (hi : i < ps.length) : sqa ps i k ∈ pr ps ps.length 0 := by
  unfold pr
  refine List.mem_append_left _ (List.mem_flatMap.2 ⟨i, List.mem_range.2 hi, List.mem_map.2 ⟨k, List.mem_range.2 hk, rfl⟩⟩)
/-- The least square of places: none is less, and it is one of them, if there are two. -/
theorem le_facts (ps : List (Int × Int)) (hv : vp ps = true) : (leR ps).2 = decide (1 < ps.length) ∧ (∀ i k, k < i → i < ps.length → (leR ps).1 ≤ sqa ps i k) ∧ decide ((leR ps).1 ∈ pr ps ps.length 0) = decide (1 < ps.length) ∧ 0 ≤ (leR ps).1 ∧ (leR ps).1 ≤ 134217728 := by
  by_cases h2 : 2 ≤ ps.length
  · have e : leR ps = (lsp (pr ps ps.length 0), true) := by unfold leR; rw [if_pos ⟨hv, h2⟩]
    rw [e]
    have hs := same ps hv h2
    obtain ⟨t, ht⟩ := pr_head ps (ps.length - 2)
    rw [show ps.length - 2 + 2 = ps.length by omega] at ht
    obtain ⟨_, l2⟩ := lim_le (pr ps ps.length 0) (sqa ps 1 0)
    have hin : lim (sqa ps 1 0) (pr ps ps.length 0) ∈ pr ps ps.length 0 := by
      rcases lim_in (pr ps ps.length 0) (sqa ps 1 0) with h | h
      · rw [h, ht]; exact List.mem_cons_self
      · exact h
    have hb := pr_bd hv ps.length 0 (Nat.le_refl _) (Nat.zero_le _) (by omega) _ hin
    rw [hs] at l2 hin hb
    refine ⟨(decide_eq_true (by omega)).symm, fun i k hk hi => l2 _ (pr_at ps i k hk hi), ?_, hb⟩
    rw [decide_eq_true hin, decide_eq_true (by omega)]
  · have e : leR ps = (0, false) := by unfold leR; rw [if_neg (fun h => h2 h.2)]
    have hl := (vp_yes hv).1
    rw [e]
    have h1 : ps.length = 1 := by omega
    refine ⟨(decide_eq_false (by omega)).symm, fun i k hk hi => absurd hi (by omega), ?_, by omega, by omega⟩
    rw [h1]
    rfl
theorem found_next (ps : List (Int × Int)) (L : Int) (i k : Nat) : decide (L ∈ pr ps i (k + 1)) = (decide (L ∈ pr ps i k) || decide (sqa ps i k = L)) := by
  have h : (L ∈ pr ps i (k + 1)) ↔ (L ∈ pr ps i k ∨ sqa ps i k = L) := by
    rw [pr_next, List.mem_append, List.mem_singleton]
    exact or_congr Iff.rfl eq_comm
  rw [← Bool.decide_or]
  exact decide_eq_decide.2 h

end Go.Proofs.Ytdanlghaiekeaaa.shapeNum
