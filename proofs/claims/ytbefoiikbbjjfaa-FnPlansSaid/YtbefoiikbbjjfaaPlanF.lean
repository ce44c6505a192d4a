/- What holds of a plan by due ticks. -/
import Derived.Test.YtbefoiikbbjjfaaRows
import Derived.Test.YtbefoiikbbjjfaaSlc
import Derived.Test.YtbefoiikbbjjfaaSmall
import Derived.Test.YtbefoiikbbjjfaaPlanNum
import Derived.Test.YtbefoiikbbjjfaaHeapAll
import Derived.Test.YtbefoiikbbjjfaaPlanP
import Derived.Test.YtbefoiikbbjjfaaMissAll
import Derived.WalkKit
import Derived.ProofKit
import Derived.OpenShut
import Derived.ShutString
import Derived.ChangeOld
import Derived.Below
import Derived.Lib.Hide
import Derived.BigQuiet
import Derived.Deep.QuietTactic
import Derived.WalkLawsBesides
import Derived.Outline
namespace Go.Proofs.Ytbefoiikbbjjfaa.planF
open Go.ChangeShapes Go.WideShapes Go.ChangeAt Go.RowKit
open Go.ChangeMaps (open_string shut_string)
set_option linter.unusedVariables false
open Go Go.RowKit
open Go.Proofs.Ytbefoiikbbjjfaa.slc Go.Proofs.Ytbefoiikbbjjfaa.small Go.Proofs.Ytbefoiikbbjjfaa.planNum Go.Proofs.Ytbefoiikbbjjfaa.heapN Go.Proofs.Ytbefoiikbbjjfaa.planP
set_option linter.unusedVariables false

theorem sg_old {out : List Sl} {x : Sl} {k : Nat} (h : k < out.length) : sg (out ++ [x]) k = sg out k := by unfold sg; simp only [List.getD, List.getElem?_append_left h]
theorem sg_new (out : List Sl) (x : Sl) : sg (out ++ [x]) out.length = x := by simp [sg, List.getD]
theorem cnt_old (out : List Sl) (x : Sl) (j : Nat) : ∀ k, k ≤ out.length → cnt (out ++ [x]) j k = cnt out j k
  | 0, _ => rfl
  | k + 1, h => by unfold cnt; rw [cnt_old out x j k (by omega), sg_old (by omega)]
theorem slot_old {bs : List Bm} {out : List Sl} {x : Sl} {k : Nat} (h : k < out.length) : slotB bs (out ++ [x]) k = slotB bs out k := by
  unfold slotB two three
  rw [sg_old h, cnt_old out x _ k (by omega)]
  by_cases e : k = 0
  · subst e; simp
  · rw [sg_old (show k - 1 < out.length by omega)]
/-- What holds while a plan is made. -/
structure PG (bs : List Bm) (un : Int) (nx : Nat → Nat) (ck : Int) (out : List Sl) : Prop where
  ok : ∀ k, k < out.length → slotB bs out k = true ∧ (sg out k).2 < un
  nx : ∀ j, nx j = cnt out j out.length
  ck : out ≠ [] → (sg out (out.length - 1)).2 + dw bs (sg out (out.length - 1)).1.toNat ≤ ck
theorem PG.start {bs : List Bm} {un : Int} : PG bs un (fun _ => 0) 0 [] := ⟨fun k hk => absurd hk (by simp), fun j => rfl, fun h => absurd rfl h⟩
theorem PG.wait {bs : List Bm} {un : Int} {nx : Nat → Nat} {ck : Int} {out : List Sl} (h : PG bs un nx ck out) (h0 : 0 < bs.length) (hb : bst bs nx ck bs.length = none) : PG bs un nx (soon bs nx bs.length) out := by
  obtain ⟨a, j, hj, e⟩ := soon_le bs nx bs.length h0
  have := bst_none hb j hj
  exact ⟨h.ok, h.nx, fun hne => by have := h.ck hne; omega⟩
theorem PG.next {bs : List Bm} {un : Int} {nx : Nat → Nat} {ck : Int} {out : List Sl} {b : Nat} (h : PG bs un nx ck out) (hp : PI bs nx ck out) (ha : ab bs = true) (hun : un ≤ 10000) (hb : bst bs nx ck bs.length = some b) (hu : ¬ un ≤ atT bs ck out b) :
    PG bs un (upd nx b) (atT bs ck out b + dw bs b) (out ++ [((b : Int), atT bs ck out b)]) := by
  obtain ⟨b1, b2, _, _⟩ := bst_some hb
  obtain ⟨t1, t2⟩ := hp.atT ha b1
  have hc0 := hp.ck0
  have hat : out ≠ [] → atT bs ck out b = ck + tu bs (sg out (out.length - 1)).1.toNat b := fun hne => by unfold atT; rw [if_neg hne]; rfl
  generalize atT bs ck out b = at' at *
  have hlen : (out ++ [((b : Int), at')]).length = out.length + 1 := by simp
  have hb' : ((b : Int), at').1.toNat = b := Int.toNat_natCast b
  refine ⟨fun k hk => ?_, fun j => ?_, fun _ => ?_⟩
  · rw [hlen] at hk
    by_cases e : k < out.length
    · rw [slot_old e, sg_old e]
      exact h.ok k e
    · obtain rfl : k = out.length := by omega
      rw [sg_new]
      refine ⟨slot_mk ?_ ?_ ?_, by show at' < un; omega⟩
      · rw [sg_new]
        unfold one
        refine decide_eq_true ?_
        dsimp only
        omega
      · unfold two
        rw [sg_new, hb', cnt_old out _ b _ (Nat.le_refl _), ← h.nx b]
        refine decide_eq_true ?_
        show com bs nx b ≤ at'
        omega
      · unfold three
        refine decide_eq_true ?_
        by_cases hne : out = []
        · left; rw [hne]; rfl
        · right
          have hl := List.length_pos_iff.2 hne
          rw [sg_new, sg_old (show out.length - 1 < out.length by omega), hb']
          have h1 := h.ck hne
          have h2 := hat hne
          show _ ≤ at'
          omega
  · rw [hlen]
    unfold upd cnt
    rw [cnt_old out _ j _ (Nat.le_refl _), sg_new, h.nx j]
    by_cases e : j = b
    · subst e; rw [if_pos rfl, if_pos rfl]
    · rw [if_neg e, if_neg (by dsimp only; omega)]; rfl
  · rw [hlen, show out.length + 1 - 1 = out.length by omega, sg_new, hb']
    exact Int.le_refl _
theorem PL_good {bs : List Bm} {un : Int} (ha : ab bs = true) (hun : un ≤ 10000) : ∀ (f : Nat) {nx : Nat → Nat} {ck : Int} {out R : List Sl}, PI bs nx ck out → PG bs un nx ck out → PL bs un f nx ck out = some R → ∀ k, k < R.length → slotB bs R k = true ∧ (sg R k).2 < un
  | 0, _, _, _, _, _, _, h => by cases h
  | f + 1, nx, ck, out, R, hp, hg, h => by
    have hl := ab_len ha
    unfold PL at h
    split at h
    · injection h with h; subst h; exact hg.ok
    · rename_i h2
      cases hb : bst bs nx ck bs.length with
      | none => rw [hb] at h; exact PL_good ha hun f (hp.wait (by omega)) (hg.wait (by omega) hb) h
      | some b =>
        rw [hb] at h
        simp only at h
        split at h
        · injection h with h; subst h; exact hg.ok
        · rename_i hu
          exact PL_good ha hun f (hp.next ha hb hun hu h2) (hg.next hp ha hun hb hu) h
theorem PB_good {bs : List Bm} {un : Int} (ha : ab bs = true) (h : 0 ≤ un ∧ un ≤ 10000) : pl bs (PB bs un) = true ∧ ∀ k, k < (PB bs un).length → slotB bs (PB bs un) k = true ∧ (sg (PB bs un) k).2 < un := by
  obtain ⟨f, hf⟩ := PB_yes ha h
  have hg := PL_good ha h.2 f PI.start PG.start hf
  refine ⟨?_, hg⟩
  unfold pl
  rw [ha, sp_all (PB_len bs un) fun k hk => (hg k hk).1]
  rfl

/-! Lists of counts -/
def cl (f : Nat → Nat) (n : Nat) : List Int := (List.range n).map fun j => ((f j : Nat) : Int)
theorem cl_len (f : Nat → Nat) (n : Nat) : (cl f n).length = n := by simp [cl]
theorem cl_congr {f g : Nat → Nat} {n : Nat} (h : ∀ j, j < n → f j = g j) : cl f n = cl g n := by
  unfold cl
  refine List.map_congr_left fun j hj => ?_
  rw [h j (List.mem_range.1 hj)]

end Go.Proofs.Ytbefoiikbbjjfaa.planF
