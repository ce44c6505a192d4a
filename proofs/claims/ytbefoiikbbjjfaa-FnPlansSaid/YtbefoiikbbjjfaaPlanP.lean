/- Plans by due ticks, plainly; what two queues hold. -/
import Derived.Test.YtbefoiikbbjjfaaRows
import Derived.Test.YtbefoiikbbjjfaaSlc
import Derived.Test.YtbefoiikbbjjfaaSmall
import Derived.Test.YtbefoiikbbjjfaaPlanNum
import Derived.Test.YtbefoiikbbjjfaaHeapAll
import Derived.WalkKit
import Derived.ProofKit
import Derived.OpenShut
import Derived.ShutString
import Derived.ChangeOld
import Derived.Below
import Derived.Lib.Hide
import Derived.BigQuiet
import Derived.Deep.QuietTactic
import Derived.WalkLawsBesides
import Derived.Outline
namespace Go.Proofs.Ytbefoiikbbjjfaa.planP
open Go.ChangeShapes Go.WideShapes Go.ChangeAt Go.RowKit
open Go.ChangeMaps (open_string shut_string)
set_option linter.unusedVariables false
open Go Go.RowKit
open Go.Proofs.Ytbefoiikbbjjfaa.slc Go.Proofs.Ytbefoiikbbjjfaa.small Go.Proofs.Ytbefoiikbbjjfaa.planNum Go.Proofs.Ytbefoiikbbjjfaa.heapN

/-- When the next job of a beam comes. -/
def com (bs : List Bm) (nx : Nat → Nat) (i : Nat) : Int := nx i * ev bs i
/-- Of the first k beams whose job has come, the first one that is due first. -/
def bst (bs : List Bm) (nx : Nat → Nat) (ck : Int) : Nat → Option Nat
  | 0 => none
  | k + 1 => match bst bs nx ck k with
    | none => if com bs nx k ≤ ck then some k else none
    | some b => if com bs nx k ≤ ck ∧ com bs nx k + ev bs k < com bs nx b + ev bs b then some k else some b
/-- The least tick at which one of the first k comes. -/
def soon (bs : List Bm) (nx : Nat → Nat) : Nat → Int
  | 0 => -1
  | k + 1 => if k = 0 ∨ com bs nx k < soon bs nx k then com bs nx k else soon bs nx k
def upd (nx : Nat → Nat) (b : Nat) : Nat → Nat := fun i => if i = b then nx i + 1 else nx i
def lastB (out : List Sl) : Nat := (sg out (out.length - 1)).1.toNat
/-- When the next job begins. -/
def atT (bs : List Bm) (ck : Int) (out : List Sl) (b : Nat) : Int := if out = [] then ck else ck + tu bs (lastB out) b
def PL (bs : List Bm) (un : Int) : Nat → (Nat → Nat) → Int → List Sl → Option (List Sl)
  | 0, _, _, _ => none
  | f + 1, nx, ck, out => if 200 ≤ out.length then some out else
    match bst bs nx ck bs.length with
    | none => PL bs un f nx (soon bs nx bs.length) out
    | some b => if un ≤ atT bs ck out b then some out else PL bs un f (upd nx b) (atT bs ck out b + dw bs b) (out ++ [((b : Int), atT bs ck out b)])
theorem PL_mono {bs : List Bm} {un : Int} : ∀ {f : Nat} {nx : Nat → Nat} {ck : Int} {out R : List Sl}, PL bs un f nx ck out = some R → PL bs un (f + 1) nx ck out = some R
  | 0, _, _, _, _, h => by cases h
  | f + 1, nx, ck, out, R, h => by
    unfold PL at h ⊢
    split
    · rename_i h1; rw [if_pos h1] at h; exact h
    · rename_i h1
      rw [if_neg h1] at h
      cases hb : bst bs nx ck bs.length with
      | none => rw [hb] at h; exact PL_mono h
      | some b =>
        rw [hb] at h
        simp only at h ⊢
        split
        · rename_i h2; rw [if_pos h2] at h; exact h
        · rename_i h2; rw [if_neg h2] at h; exact PL_mono h
theorem PL_le {bs : List Bm} {un : Int} {f : Nat} {nx : Nat → Nat} {ck : Int} {out R : List Sl} (h : PL bs un f nx ck out = some R) : ∀ d, PL bs un (f + d) nx ck out = some R
  | 0 => h
  | d + 1 => PL_mono (PL_le h d)
theorem PL_one {bs : List Bm} {un : Int} {f g : Nat} {nx : Nat → Nat} {ck : Int} {out R R' : List Sl} (h : PL bs un f nx ck out = some R) (h' : PL bs un g nx ck out = some R') : R = R' := by
  have a := PL_le h g
  have b := PL_le h' f
  rw [Nat.add_comm] at b
  rw [a] at b
  exact Option.some.inj b
/-- What is told from here. -/
def Tell (bs : List Bm) (un : Int) (nx : Nat → Nat) (ck : Int) (out R : List Sl) : Prop := ∃ f, PL bs un f nx ck out = some R
theorem Tell.full {bs : List Bm} {un : Int} {nx : Nat → Nat} {ck : Int} {out R : List Sl} (h : Tell bs un nx ck out R) (hl : 200 ≤ out.length) : R = out ∧ ∀ nx' ck', Tell bs un nx' ck' out out := by
  obtain ⟨f, hf⟩ := h
  cases f with
  | zero => cases hf
  | succ f =>
    unfold PL at hf
    rw [if_pos hl] at hf
    exact ⟨(Option.some.inj hf).symm, fun nx' ck' => ⟨1, by unfold PL; rw [if_pos hl]⟩⟩
theorem Tell.wait {bs : List Bm} {un : Int} {nx : Nat → Nat} {ck : Int} {out R : List Sl} (h : Tell bs un nx ck out R) (hb : bst bs nx ck bs.length = none) : Tell bs un nx (soon bs nx bs.length) out R := by
  by_cases hl : 200 ≤ out.length
  · obtain ⟨e, h2⟩ := h.full hl
    rw [e]
    exact h2 _ _
  · obtain ⟨f, hf⟩ := h
    cases f with
    | zero => cases hf
    | succ f =>
      unfold PL at hf
      rw [if_neg hl, hb] at hf
      exact ⟨f, hf⟩
theorem Tell.end_ {bs : List Bm} {un : Int} {nx : Nat → Nat} {ck : Int} {out R : List Sl} {b : Nat} (h : Tell bs un nx ck out R) (hb : bst bs nx ck bs.length = some b) (hu : un ≤ atT bs ck out b ∨ 200 ≤ out.length) : R = out := by
  by_cases hl : 200 ≤ out.length
  · exact (h.full hl).1
  · obtain ⟨f, hf⟩ := h
    cases f with
    | zero => cases hf
    | succ f =>
      unfold PL at hf
      rw [if_neg hl, hb] at hf
      simp only at hf
      rw [if_pos (by omega)] at hf
      exact (Option.some.inj hf).symm
theorem Tell.next {bs : List Bm} {un : Int} {nx : Nat → Nat} {ck : Int} {out R : List Sl} {b : Nat} (h : Tell bs un nx ck out R) (hb : bst bs nx ck bs.length = some b) (hu : ¬ un ≤ atT bs ck out b) (hl : ¬ 200 ≤ out.length) : Tell bs un (upd nx b) (atT bs ck out b + dw bs b) (out ++ [((b : Int), atT bs ck out b)]) R := by
  obtain ⟨f, hf⟩ := h
  cases f with
  | zero => cases hf
  | succ f =>
    unfold PL at hf
    rw [if_neg hl, hb] at hf
    simp only at hf
    rw [if_neg hu] at hf
    exact ⟨f, hf⟩
theorem bst_none {bs : List Bm} {nx : Nat → Nat} {ck : Int} : ∀ {k : Nat}, bst bs nx ck k = none → ∀ i, i < k → ck < com bs nx i
  | 0, _, i, hi => absurd hi (by omega)
  | k + 1, h, i, hi => by
    unfold bst at h
    cases hb : bst bs nx ck k with
    | none =>
      rw [hb] at h
      simp only at h
      split at h
      · cases h
      · by_cases e : i = k
        · subst e; omega
        · exact bst_none hb i (by omega)
    | some b => rw [hb] at h; simp only at h; split at h <;> cases h
theorem bst_some {bs : List Bm} {nx : Nat → Nat} {ck : Int} : ∀ {k b : Nat}, bst bs nx ck k = some b → b < k ∧ com bs nx b ≤ ck ∧ (∀ i, i < k → com bs nx i ≤ ck → com bs nx b + ev bs b ≤ com bs nx i + ev bs i) ∧ ∀ i, i < b → com bs nx i ≤ ck → com bs nx b + ev bs b < com bs nx i + ev bs i
  | 0, b, h => by cases h
  | k + 1, b, h => by
    unfold bst at h
    cases hb : bst bs nx ck k with
    | none =>
      rw [hb] at h
      simp only at h
      split at h
      · rename_i h1
        injection h with h
        subst h
        have h2 := bst_none hb
        exact ⟨by omega, h1, fun i hi hc => by
          by_cases e : i = k
          · subst e; omega
          · have := h2 i (by omega); omega, fun i hi hc => by have := h2 i hi; omega⟩
      · cases h
    | some c =>
      rw [hb] at h
      simp only at h
      obtain ⟨a1, a2, a3, a4⟩ := bst_some hb
      split at h
      · rename_i h1
        injection h with h
        subst h
        exact ⟨by omega, h1.1, fun i hi hc => by
          by_cases e : i = k
          · subst e; omega
          · have := a3 i (by omega) hc; omega, fun i hi hc => by have := a3 i hi hc; omega⟩
      · rename_i h1
        injection h with h
        subst h
        exact ⟨by omega, a2, fun i hi hc => by
          by_cases e : i = k
          · subst e; omega
          · exact a3 i (by omega) hc, a4⟩
theorem soon_le (bs : List Bm) (nx : Nat → Nat) : ∀ k, 0 < k → (∀ i, i < k → soon bs nx k ≤ com bs nx i) ∧ ∃ i, i < k ∧ soon bs nx k = com bs nx i
  | 0, h => absurd h (by omega)
  | k + 1, _ => by
    unfold soon
    by_cases h0 : k = 0
    · subst h0
      rw [if_pos (Or.inl rfl)]
      exact ⟨fun i hi => (show i = 0 by omega) ▸ Int.le_refl _, 0, by omega, rfl⟩
    · obtain ⟨a, j, hj, e⟩ := soon_le bs nx k (by omega)
      by_cases h1 : com bs nx k < soon bs nx k
      · rw [if_pos (Or.inr h1)]
        exact ⟨fun i hi => by
          by_cases e2 : i = k
          · subst e2; exact Int.le_refl _
          · have := a i (by omega); omega, k, by omega, rfl⟩
      · rw [if_neg (by omega)]
        exact ⟨fun i hi => by
          by_cases e2 : i = k
          · subst e2; omega
          · exact a i (by omega), j, by omega, e⟩
/-- Numbers stay small. -/
structure PI (bs : List Bm) (nx : Nat → Nat) (ck : Int) (out : List Sl) : Prop where
  ck0 : 0 ≤ ck
  ck1 : ck ≤ 20000
  com : ∀ i, i < bs.length → 0 ≤ com bs nx i ∧ com bs nx i ≤ 20000
  len : out.length ≤ 200
  slot : ∀ k, k < out.length → ∃ j t : Nat, sg out k = ((j : Int), (t : Int)) ∧ j < bs.length ∧ t ≤ 10000
theorem sg_mem {out : List Sl} {k : Nat} (h : k < out.length) : sg out k = out[k] := by simp [sg, List.getD, h]
theorem PI.lastB {bs : List Bm} {nx : Nat → Nat} {ck : Int} {out : List Sl} (h : PI bs nx ck out) (hne : out ≠ []) : ∃ j t : Nat, sg out (out.length - 1) = ((j : Int), (t : Int)) ∧ j < bs.length ∧ t ≤ 10000 ∧ lastB out = j := by
  have hl := List.length_pos_iff.2 hne
  obtain ⟨j, t, e, hj, ht⟩ := h.slot (out.length - 1) (by omega)
  exact ⟨j, t, e, hj, ht, by unfold planP.lastB; rw [e]; exact Int.toNat_natCast j⟩
theorem PI.atT {bs : List Bm} {nx : Nat → Nat} {ck : Int} {out : List Sl} (h : PI bs nx ck out) (ha : ab bs = true) {b : Nat} (hb : b < bs.length) : ck ≤ atT bs ck out b ∧ atT bs ck out b ≤ 20008 := by
  unfold planP.atT
  have := h.ck1
  split
  · omega
  · rename_i hne
    obtain ⟨j, t, e, hj, _, el⟩ := h.lastB hne
    rw [el]
    have := sw_bd (ab_bd ha hj) (ab_bd ha hb)
    unfold tu
    omega
theorem PI.wait {bs : List Bm} {nx : Nat → Nat} {ck : Int} {out : List Sl} (h : PI bs nx ck out) (h0 : 0 < bs.length) : PI bs nx (soon bs nx bs.length) out := by
  obtain ⟨a, j, hj, e⟩ := soon_le bs nx bs.length h0
  obtain ⟨c1, c2⟩ := h.com j hj
  exact ⟨by omega, by omega, h.com, h.len, h.slot⟩
theorem PI.next {bs : List Bm} {nx : Nat → Nat} {ck un : Int} {out : List Sl} {b : Nat} (h : PI bs nx ck out) (ha : ab bs = true) (hb : bst bs nx ck bs.length = some b) (hun : un ≤ 10000) (hu : ¬ un ≤ planP.atT bs ck out b) (hl : ¬ 200 ≤ out.length) :
    PI bs (upd nx b) (planP.atT bs ck out b + dw bs b) (out ++ [((b : Int), planP.atT bs ck out b)]) := by
  obtain ⟨b1, b2, _, _⟩ := bst_some hb
  obtain ⟨t1, t2⟩ := h.atT ha b1
  have hd := ab_num ha b1
  have h0 := h.ck0
  refine ⟨by show 0 ≤ _ + (bg bs b).2.2.1; omega, by show _ + (bg bs b).2.2.1 ≤ _; omega, fun i hi => ?_, by simp; omega, fun k hk => ?_⟩
  · have hi2 := h.com i hi
    by_cases e : i = b
    · subst e
      have : planP.com bs (upd nx i) i = planP.com bs nx i + ev bs i := by
        unfold planP.com upd
        rw [if_pos rfl]
        rw [show ((nx i + 1 : Nat) : Int) = (nx i : Int) + 1 by simp, Int.add_mul, Int.one_mul]
      have he : ev bs i = (bg bs i).2.2.2 := rfl
      omega
    · have : planP.com bs (upd nx b) i = planP.com bs nx i := by unfold planP.com upd; rw [if_neg e]
      omega
  · rw [List.length_append, List.length_singleton] at hk
    by_cases e : k < out.length
    · rw [show sg (out ++ [((b : Int), planP.atT bs ck out b)]) k = sg out k by unfold sg; simp only [List.getD, List.getElem?_append_left e]]
      exact h.slot k e
    · obtain rfl : k = out.length := by omega
      refine ⟨b, (planP.atT bs ck out b).toNat, ?_, b1, by omega⟩
      rw [show (((planP.atT bs ck out b).toNat : Nat) : Int) = planP.atT bs ck out b by omega]
      simp [sg, List.getD]
/-- How far it is to the end, at most. -/
def far (ck : Int) (out : List Sl) : Nat := (200 - out.length) * 30000 + (20001 - ck).toNat
theorem far_wait {ck ck' : Int} (out : List Sl) (h : ck < ck') (h2 : ck ≤ 20000) : far ck' out + 1 ≤ far ck out := by
  unfold far
  generalize (200 - out.length) * 30000 = q
  omega
theorem far_next {ck ck' : Int} {out : List Sl} (x : Sl) (hl : out.length < 200) (h : ck ≤ ck') : far ck' (out ++ [x]) + 1 ≤ far ck out := by
  unfold far
  rw [List.length_append, List.length_singleton]
  obtain ⟨q, hq⟩ : ∃ q, 200 - out.length = q + 1 := ⟨200 - out.length - 1, by omega⟩
  rw [show 200 - (out.length + 1) = q by omega, hq, Nat.succ_mul]
  generalize q * 30000 = r
  omega
theorem tell_all {bs : List Bm} {un : Int} (ha : ab bs = true) (hun : un ≤ 10000) : ∀ (m : Nat) (nx : Nat → Nat) (ck : Int) (out : List Sl), far ck out ≤ m → PI bs nx ck out → ∃ R, Tell bs un nx ck out R := by
  intro m
  induction m with
  | zero =>
    intro nx ck out hm h
    have hc := h.ck1
    unfold far at hm
    omega
  | succ m ih =>
    intro nx ck out hm h
    have hlen := ab_len ha
    have hc := h.ck1
    by_cases hl : 200 ≤ out.length
    · exact ⟨out, 1, by unfold PL; rw [if_pos hl]⟩
    · cases hb : bst bs nx ck bs.length with
      | none =>
        obtain ⟨a, j, hj, e⟩ := soon_le bs nx bs.length (by omega)
        have h1 := bst_none hb j hj
        have h2 := h.com j hj
        have hf1 := far_wait out (show ck < soon bs nx bs.length by omega) hc
        obtain ⟨R, f, hf⟩ := ih nx (soon bs nx bs.length) out (by omega) (h.wait (by omega))
        exact ⟨R, f + 1, by unfold PL; rw [if_neg hl, hb]; exact hf⟩
      | some b =>
        by_cases hu : un ≤ atT bs ck out b
        · exact ⟨out, 1, by unfold PL; rw [if_neg hl, hb]; simp only; rw [if_pos hu]⟩
        · obtain ⟨b1, _, _, _⟩ := bst_some hb
          have hd := ab_num ha b1
          obtain ⟨t1, t2⟩ := h.atT ha b1
          have hdw : dw bs b = (bg bs b).2.2.1 := rfl
          have hf1 := far_next ((b : Int), atT bs ck out b) (show out.length < 200 by omega) (show ck ≤ atT bs ck out b + dw bs b by rw [hdw]; omega)
          obtain ⟨R, f, hf⟩ := ih (upd nx b) (atT bs ck out b + dw bs b) (out ++ [((b : Int), atT bs ck out b)]) (by omega) (h.next ha hb hun hu hl)
          exact ⟨R, f + 1, by unfold PL; rw [if_neg hl, hb]; simp only; rw [if_neg hu]; exact hf⟩
theorem PI.start {bs : List Bm} : PI bs (fun _ => 0) 0 [] := ⟨Int.le_refl _, by omega, fun i hi => by unfold planP.com; simp, by simp, fun k hk => absurd hk (by simp)⟩
open Classical in
/-- The plan. -/
noncomputable def PB (bs : List Bm) (un : Int) : List Sl := if h : ab bs = true ∧ (0 ≤ un ∧ un ≤ 10000) ∧ ∃ R, Tell bs un (fun _ => 0) 0 [] R then Classical.choose h.2.2 else []
def pok (bs : List Bm) (un : Int) : Bool := ab bs && decide (0 ≤ un ∧ un ≤ 10000)
theorem PB_yes {bs : List Bm} {un : Int} (ha : ab bs = true) (hu : 0 ≤ un ∧ un ≤ 10000) : Tell bs un (fun _ => 0) 0 [] (PB bs un) := by
  have h : ab bs = true ∧ (0 ≤ un ∧ un ≤ 10000) ∧ ∃ R, Tell bs un (fun _ => 0) 0 [] R := ⟨ha, hu, tell_all ha hu.2 (far 0 []) (fun _ => 0) 0 [] (Nat.le_refl _) PI.start⟩
  unfold PB
  rw [dif_pos h]
  exact Classical.choose_spec h.2.2
theorem PB_no {bs : List Bm} {un : Int} (h : ab bs = false ∨ ¬ (0 ≤ un ∧ un ≤ 10000)) : PB bs un = [] ∧ pok bs un = false := by
  constructor
  · unfold PB
    rw [dif_neg]
    rintro ⟨h1, h2, _⟩
    rcases h with h | h
    · rw [h1] at h; cases h
    · exact h h2
  · unfold pok
    rcases h with h | h
    · rw [h]; rfl
    · rw [decide_eq_false h, Bool.and_false]
theorem pok_yes {bs : List Bm} {un : Int} (ha : ab bs = true) (hu : 0 ≤ un ∧ un ≤ 10000) : pok bs un = true := by unfold pok; rw [ha, decide_eq_true hu]; rfl
theorem PL_len {bs : List Bm} {un : Int} : ∀ {f : Nat} {nx : Nat → Nat} {ck : Int} {out R : List Sl}, out.length ≤ 200 → PL bs un f nx ck out = some R → R.length ≤ 200
  | 0, _, _, _, _, _, h => by cases h
  | f + 1, nx, ck, out, R, hl, h => by
    unfold PL at h
    split at h
    · injection h with h; subst h; exact hl
    · cases hb : bst bs nx ck bs.length with
      | none => rw [hb] at h; exact PL_len hl h
      | some b =>
        rw [hb] at h
        simp only at h
        split at h
        · injection h with h; subst h; exact hl
        · exact PL_len (by simp; omega) h
set_option maxRecDepth 100000 in
theorem PB_len (bs : List Bm) (un : Int) : (PB bs un).length ≤ 200 := by
  by_cases h : ab bs = true ∧ (0 ≤ un ∧ un ≤ 10000)
  · obtain ⟨f, hf⟩ := PB_yes h.1 h.2
    exact PL_len (by simp) hf
  · have h2 : ab bs = false ∨ ¬ (0 ≤ un ∧ un ≤ 10000) := by
      cases ha : ab bs with
      | false => exact .inl rfl
      | true => exact .inr (fun h2 => h ⟨ha, h2⟩)
    rw [(PB_no h2).1]
    simp

end Go.Proofs.Ytbefoiikbbjjfaa.planP
