/- Beams and slots, plainly: valid ones, the ticks of a turn, plans. -/
import Derived.Test.YtbefoiikbbjjfaaRows
import Derived.Test.YtbefoiikbbjjfaaSlc
import Derived.Test.YtbefoiikbbjjfaaSmall
namespace Go.Proofs.Ytbefoiikbbjjfaa.planNum
set_option linter.unusedVariables false
open Go Go.RowKit
open Go.Proofs.Ytbefoiikbbjjfaa.slc Go.Proofs.Ytbefoiikbbjjfaa.small
set_option linter.unusedVariables false

abbrev Bm := Int × Int × Int × Int
/-- A valid beam. -/
def bb (x : Bm) : Bool := dirB x.1 x.2.1 && decide (1 ≤ x.2.2.1 ∧ x.2.2.1 ≤ 10000 ∧ x.2.2.1 ≤ x.2.2.2 ∧ x.2.2.2 ≤ 10000)
/-- Valid beams. -/
def ab (bs : List Bm) : Bool := decide (1 ≤ bs.length ∧ bs.length ≤ 7) && bs.all bb
def bg (bs : List Bm) (k : Nat) : Bm := bs.getD k (0, 0, 0, 0)
theorem ab_bad {bs : List Bm} {k : Nat} (hk : k < bs.length) (h : bb (bg bs k) = false) : ab bs = false := by
  unfold ab
  rw [show bs.all bb = false from by
    rw [List.all_eq_false]
    refine ⟨bs[k], List.getElem_mem hk, ?_⟩
    rw [show bg bs k = bs[k] by simp [bg, List.getD, hk]] at h
    simp [h]]
  simp
def Upto (bs : List Bm) (k : Nat) : Prop := ∀ j, j < k → bb (bg bs j) = true
theorem Upto.zero (bs : List Bm) : Upto bs 0 := fun j h => absurd h (by omega)
theorem Upto.succ {bs : List Bm} {k : Nat} (h : Upto bs k) (hk : bb (bg bs k) = true) : Upto bs (k + 1) := fun j hj => by
  by_cases e : j = k
  · subst e; exact hk
  · exact h j (by omega)
theorem Upto.ab {bs : List Bm} (h : Upto bs bs.length) : ab bs = decide (1 ≤ bs.length ∧ bs.length ≤ 7) := by
  unfold planNum.ab
  rw [show bs.all bb = true from ?_]
  · simp
  · rw [List.all_eq_true]
    intro x hx
    obtain ⟨k, hk, rfl⟩ := List.getElem_of_mem hx
    have := h k hk
    rwa [show bg bs k = bs[k] by simp [bg, List.getD, hk]] at this
theorem ab_len {bs : List Bm} (h : ab bs = true) : 1 ≤ bs.length ∧ bs.length ≤ 7 := by
  unfold ab at h
  simp only [Bool.and_eq_true, decide_eq_true_eq] at h
  exact h.1
theorem ab_at {bs : List Bm} (h : ab bs = true) {k : Nat} (hk : k < bs.length) : bb (bg bs k) = true := by
  unfold ab at h
  simp only [Bool.and_eq_true, List.all_eq_true] at h
  rw [show bg bs k = bs[k] by simp [bg, List.getD, hk]]
  exact h.2 _ (List.getElem_mem hk)
theorem bb_yes {u v d s : Int} (h : bb (u, v, d, s) = true) : dirB u v = true ∧ 1 ≤ d ∧ d ≤ 10000 ∧ d ≤ s ∧ s ≤ 10000 := by
  unfold bb at h
  simp only [Bool.and_eq_true, decide_eq_true_eq] at h
  exact ⟨h.1, h.2⟩
theorem bb_mk {u v d s : Int} (h : dirB u v = true) (h1 : 1 ≤ d) (h2 : d ≤ 10000) (h3 : d ≤ s) (h4 : s ≤ 10000) : bb (u, v, d, s) = true := by
  unfold bb
  simp only [Bool.and_eq_true, decide_eq_true_eq]
  exact ⟨h, h1, h2, h3, h4⟩
theorem bb_dir {u v d s : Int} (h : dirB u v = false) : bb (u, v, d, s) = false := by unfold bb; simp [h]
theorem bb_num {u v d s : Int} (h : ¬ (1 ≤ d ∧ d ≤ 10000 ∧ d ≤ s ∧ s ≤ 10000)) : bb (u, v, d, s) = false := by unfold bb; simp only [decide_eq_false h, Bool.and_false]

/-- The greater one of the differences. -/
def df (u v u' v' : Int) : Int := max (max (u - u') (u' - u)) (max (v - v') (v' - v))
/-- The ticks of a turn. -/
def sw (u v u' v' : Int) : Int := (df u v u' v' + 15) / 16
def Bd (u v : Int) : Prop := -64 ≤ u ∧ u ≤ 64 ∧ -64 ≤ v ∧ v ≤ 64
theorem dir_bd {u v : Int} (h : dirB u v = true) : Bd u v := by have := dir_yes h; exact ⟨this.1, this.2.1, this.2.2.1, this.2.2.2.1⟩
theorem df_bd {u v u' v' : Int} (h : Bd u v) (h' : Bd u' v') : 0 ≤ df u v u' v' ∧ df u v u' v' ≤ 128 := by
  unfold Bd at h h'
  unfold df
  omega
theorem sw_bd {u v u' v' : Int} (h : Bd u v) (h' : Bd u' v') : 0 ≤ sw u v u' v' ∧ sw u v u' v' ≤ 8 := by
  have := df_bd h h'
  unfold sw
  omega
/-- The ticks of a turn between two beams. -/
def tu (bs : List Bm) (i j : Nat) : Int := sw (bg bs i).1 (bg bs i).2.1 (bg bs j).1 (bg bs j).2.1
theorem ab_bd {bs : List Bm} (h : ab bs = true) {k : Nat} (hk : k < bs.length) : Bd (bg bs k).1 (bg bs k).2.1 := dir_bd (bb_yes (show bb ((bg bs k).1, (bg bs k).2.1, (bg bs k).2.2.1, (bg bs k).2.2.2) = true from ab_at h hk)).1
theorem ab_num {bs : List Bm} (h : ab bs = true) {k : Nat} (hk : k < bs.length) : 1 ≤ (bg bs k).2.2.1 ∧ (bg bs k).2.2.1 ≤ 10000 ∧ (bg bs k).2.2.1 ≤ (bg bs k).2.2.2 ∧ (bg bs k).2.2.2 ≤ 10000 := (bb_yes (show bb ((bg bs k).1, (bg bs k).2.1, (bg bs k).2.2.1, (bg bs k).2.2.2) = true from ab_at h hk)).2

/-! Slots -/
abbrev Sl := Int × Int
def sg (ss : List Sl) (k : Nat) : Sl := ss.getD k (0, 0)
/-- How many of the first k slots are of the beam j. -/
def cnt (ss : List Sl) (j : Nat) : Nat → Nat
  | 0 => 0
  | k + 1 => cnt ss j k + (if (sg ss k).1 = (j : Int) then 1 else 0)
theorem cnt_le (ss : List Sl) (j : Nat) : ∀ k, cnt ss j k ≤ k
  | 0 => Nat.le_refl _
  | k + 1 => by have := cnt_le ss j k; unfold cnt; split <;> omega
def dw (bs : List Bm) (j : Nat) : Int := (bg bs j).2.2.1
def ev (bs : List Bm) (j : Nat) : Int := (bg bs j).2.2.2
/-- A slot has a beam and a tick. -/
def one (bs : List Bm) (x : Sl) : Bool := decide (0 ≤ x.1 ∧ x.1 ≤ (bs.length : Int) - 1 ∧ 0 ≤ x.2 ∧ x.2 ≤ 100000)
/-- A slot does not begin before its job comes. -/
def two (bs : List Bm) (ss : List Sl) (k : Nat) : Bool := decide (cnt ss (sg ss k).1.toNat k * ev bs (sg ss k).1.toNat ≤ (sg ss k).2)
/-- It does not begin before the end of the one before it and the turn. -/
def three (bs : List Bm) (ss : List Sl) (k : Nat) : Bool :=
  decide (k = 0 ∨ (sg ss (k - 1)).2 + dw bs (sg ss (k - 1)).1.toNat + tu bs (sg ss (k - 1)).1.toNat (sg ss k).1.toNat ≤ (sg ss k).2)
def slotB (bs : List Bm) (ss : List Sl) (k : Nat) : Bool := one bs (sg ss k) && (two bs ss k && three bs ss k)
/-- Slots are a plan of valid beams. -/
def sp (bs : List Bm) (ss : List Sl) : Bool := decide (ss.length ≤ 200) && (List.range ss.length).all (slotB bs ss)
def pl (bs : List Bm) (ss : List Sl) : Bool := ab bs && sp bs ss
theorem sp_bad {bs : List Bm} {ss : List Sl} {k : Nat} (hk : k < ss.length) (h : slotB bs ss k = false) : sp bs ss = false := by
  unfold sp
  rw [show (List.range ss.length).all (slotB bs ss) = false from by
    rw [List.all_eq_false]
    exact ⟨k, List.mem_range.2 hk, by simp [h]⟩]
  simp
theorem sp_long {bs : List Bm} {ss : List Sl} (h : 200 < ss.length) : sp bs ss = false := by unfold sp; rw [decide_eq_false (by omega)]; rfl
theorem sp_all {bs : List Bm} {ss : List Sl} (hl : ss.length ≤ 200) (h : ∀ k, k < ss.length → slotB bs ss k = true) : sp bs ss = true := by
  unfold sp
  rw [decide_eq_true hl, show (List.range ss.length).all (slotB bs ss) = true from by
    rw [List.all_eq_true]
    intro k hk
    exact h k (List.mem_range.1 hk)]
  rfl
theorem sp_len {bs : List Bm} {ss : List Sl} (h : sp bs ss = true) : ss.length ≤ 200 := by
  unfold sp at h
  simp only [Bool.and_eq_true, decide_eq_true_eq] at h
  exact h.1
theorem sp_at {bs : List Bm} {ss : List Sl} (h : sp bs ss = true) {k : Nat} (hk : k < ss.length) : slotB bs ss k = true := by
  unfold sp at h
  simp only [Bool.and_eq_true, List.all_eq_true] at h
  exact h.2 k (List.mem_range.2 hk)
theorem pl_and {bs : List Bm} {ss : List Sl} (h : pl bs ss = true) : ab bs = true ∧ sp bs ss = true := by
  unfold pl at h
  simpa using h
theorem one_bad {bs : List Bm} {ss : List Sl} {k : Nat} (h : one bs (sg ss k) = false) : slotB bs ss k = false := by unfold slotB; rw [h]; rfl
theorem two_bad {bs : List Bm} {ss : List Sl} {k : Nat} (h : two bs ss k = false) : slotB bs ss k = false := by unfold slotB; rw [h]; simp
theorem three_bad {bs : List Bm} {ss : List Sl} {k : Nat} (h : three bs ss k = false) : slotB bs ss k = false := by unfold slotB; rw [h]; simp
theorem slot_mk {bs : List Bm} {ss : List Sl} {k : Nat} (h1 : one bs (sg ss k) = true) (h2 : two bs ss k = true) (h3 : three bs ss k = true) : slotB bs ss k = true := by unfold slotB; rw [h1, h2, h3]; rfl
theorem slot_yes {bs : List Bm} {ss : List Sl} {k : Nat} (h : slotB bs ss k = true) : one bs (sg ss k) = true ∧ two bs ss k = true ∧ three bs ss k = true := by
  unfold slotB at h
  simp only [Bool.and_eq_true] at h
  exact h
theorem one_yes {bs : List Bm} {x : Sl} (h : one bs x = true) : ∃ j t : Nat, x = ((j : Int), (t : Int)) ∧ j < bs.length ∧ t ≤ 100000 := by
  unfold one at h
  have := of_decide_eq_true h
  refine ⟨x.1.toNat, x.2.toNat, ?_, by omega, by omega⟩
  ext <;> simp <;> omega

end Go.Proofs.Ytbefoiikbbjjfaa.planNum
