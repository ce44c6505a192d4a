/- The differences that no marks have, by the model. -/
import Derived.Test.YtpmjheofjmdfeaaRows
import Derived.Test.YtpmjheofjmdfeaaSlc
import Derived.Test.YtpmjheofjmdfeaaSmall
import Derived.Test.YtpmjheofjmdfeaaListI
import Derived.Test.YtpmjheofjmdfeaaMarks
import Derived.Test.YtpmjheofjmdfeaaPut
import Derived.Test.YtpmjheofjmdfeaaDiff
import Derived.WalkKit
import Derived.ProofKit
import Derived.OpenShut
import Derived.ShutString
import Derived.ChangeOld
import Derived.Below
import Derived.Lib.Hide
import Derived.BigQuiet
import Derived.Deep.QuietTactic
import Derived.WalkLawsBesides
import Derived.Outline
import Derived.Deep.QuietTactic
import Derived.BigQuiet
import Derived.Deep.LoopGhost
namespace Go.Proofs.Ytpmjheofjmdfeaa.holes
open Go.ChangeShapes Go.WideShapes Go.ChangeAt Go.RowKit
open Go.ChangeMaps (open_string shut_string)
set_option linter.unusedVariables false
open Go Go.RowKit
open Go.Proofs.Ytpmjheofjmdfeaa.slc Go.Proofs.Ytpmjheofjmdfeaa.small Go.Proofs.Ytpmjheofjmdfeaa.listI Go.Proofs.Ytpmjheofjmdfeaa.marks Go.Proofs.Ytpmjheofjmdfeaa.put Go.Proofs.Ytpmjheofjmdfeaa.diff

/-- All differences. -/
def D (xs : List Int) : List Int := dl xs xs.length 0
/-- The greatest one. -/
def top (xs : List Int) : Int := xs.getD (xs.length - 1) 0 - xs.getD 0 0
theorem rises_le {xs : List Int} (h : xs.Pairwise (· < ·)) (a b : Nat) (ha : a < xs.length) (hb : b < xs.length) (hab : a ≤ b) : xs[a] ≤ xs[b] := by
  rcases Nat.lt_or_eq_of_le hab with hlt | rfl
  · have := (List.pairwise_iff_getElem.1 h) a b ha hb hlt; omega
  · exact Int.le_refl _
theorem D_mem {xs : List Int} (y : Int) : y ∈ D xs ↔ ∃ a b, a < xs.length ∧ b ≤ a ∧ y = dif xs a b := by unfold D; rw [dl_mem, pd_mem]
theorem D_bd {xs : List Int} (hv : mB xs = true) (y : Int) (hy : y ∈ D xs) : 0 ≤ y ∧ y ≤ top xs := by
  obtain ⟨h1, h2, h3, h4⟩ := mB_yes hv
  obtain ⟨a, b, ha, hb, rfl⟩ := (D_mem y).1 hy
  rw [dif_at xs a b ha (by omega)]
  have e1 := rises_le h4 b a (by omega) ha hb
  have e2 := rises_le h4 a (xs.length - 1) ha (by omega) (by omega)
  have e3 := rises_le h4 0 b (by omega) (by omega) (by omega)
  have e4 : top xs = xs[xs.length - 1] - xs[0] := by simp [top, List.getD, show xs.length - 1 < xs.length by omega, show 0 < xs.length by omega]
  omega
theorem top_mem {xs : List Int} (hv : mB xs = true) : top xs ∈ D xs := by
  obtain ⟨h1, _⟩ := mB_yes hv
  exact (D_mem _).2 ⟨xs.length - 1, 0, by omega, by omega, rfl⟩
theorem top_bd {xs : List Int} (hv : mB xs = true) : 0 ≤ top xs ∧ top xs ≤ 4096 := by
  obtain ⟨h1, h2, h3, h4⟩ := mB_yes hv
  have e4 : top xs = xs[xs.length - 1] - xs[0] := by simp [top, List.getD, show xs.length - 1 < xs.length by omega, show 0 < xs.length by omega]
  have a := h3 xs[xs.length - 1] (List.getElem_mem (by omega))
  have b := h3 xs[0] (List.getElem_mem (by omega))
  have c := (D_bd hv _ (top_mem hv)).1
  omega
theorem D_last {xs : List Int} (hv : mB xs = true) : 0 < (D xs).length ∧ ∀ h : (D xs).length - 1 < (D xs).length, (D xs)[(D xs).length - 1] = top xs := by
  obtain ⟨i, hi, he⟩ := List.mem_iff_getElem.1 (top_mem hv)
  refine ⟨by omega, fun h => ?_⟩
  have e1 := rises_le (dl_rises xs xs.length 0) i ((D xs).length - 1) hi h (by omega)
  have e2 := (D_bd hv _ (List.getElem_mem h)).2
  have e3 : (D xs)[i] ≤ (D xs)[(D xs).length - 1] := e1
  omega
/-- The numbers before k that are no differences. -/
def hl (L : List Int) (k : Nat) : List Int := ((List.range k).map fun i : Nat => (i : Int)).filter fun y => decide (y ∉ L)
theorem hl_in {L : List Int} {k : Nat} (h : (k : Int) ∈ L) : hl L (k + 1) = hl L k := by
  unfold hl; rw [List.range_succ, List.map_append, List.filter_append]; simp [h]
theorem hl_out {L : List Int} {k : Nat} (h : (k : Int) ∉ L) : hl L (k + 1) = hl L k ++ [(k : Int)] := by
  unfold hl; rw [List.range_succ, List.map_append, List.filter_append]; simp [h]
theorem hl_len (L : List Int) (k : Nat) : (hl L k).length ≤ k := by
  unfold hl; exact Nat.le_trans (List.length_filter_le _ _) (by simp)
/-- The holes. -/
def H (xs : List Int) : List Int := hl (D xs) (top xs).toNat

theorem D_c : True := trivial

set_option maxHeartbeats 1000000 in
set_option maxRecDepth 100000 in
theorem holes_spec : True := trivial

end Go.Proofs.Ytpmjheofjmdfeaa.holes
