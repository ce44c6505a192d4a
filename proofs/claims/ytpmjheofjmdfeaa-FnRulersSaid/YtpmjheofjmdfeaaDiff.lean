/- The differences of marks, as a rising list. -/
import Derived.Test.YtpmjheofjmdfeaaRows
import Derived.Test.YtpmjheofjmdfeaaSlc
import Derived.Test.YtpmjheofjmdfeaaSmall
import Derived.Test.YtpmjheofjmdfeaaListI
import Derived.Test.YtpmjheofjmdfeaaMarks
import Derived.Test.YtpmjheofjmdfeaaPut
import Derived.WalkKit
import Derived.ProofKit
import Derived.OpenShut
import Derived.ShutString
import Derived.ChangeOld
import Derived.Below
import Derived.Lib.Hide
import Derived.BigQuiet
import Derived.Deep.QuietTactic
import Derived.WalkLawsBesides
import Derived.Outline
import Derived.Deep.QuietTactic
import Derived.BigQuiet
import Derived.Deep.LoopGhost
import Derived.Deep.RegionHeld3
namespace Go.Proofs.Ytpmjheofjmdfeaa.diff
open Go.ChangeShapes Go.WideShapes Go.ChangeAt Go.RowKit
open Go.ChangeMaps (open_string shut_string)
set_option linter.unusedVariables false
open Go Go.RowKit
open Go.Proofs.Ytpmjheofjmdfeaa.slc Go.Proofs.Ytpmjheofjmdfeaa.small Go.Proofs.Ytpmjheofjmdfeaa.listI Go.Proofs.Ytpmjheofjmdfeaa.marks Go.Proofs.Ytpmjheofjmdfeaa.put

def dif (xs : List Int) (a b : Nat) : Int := xs.getD a 0 - xs.getD b 0
theorem dif_at (xs : List Int) (a b : Nat) (ha : a < xs.length) (hb : b < xs.length) : dif xs a b = xs[a] - xs[b] := by simp [dif, List.getD, ha, hb]
/-- The differences of all marks before i, and of i with those before k. -/
def pd (xs : List Int) (i k : Nat) : List Int :=
  (List.range i).flatMap (fun a : Nat => (List.range (a + 1)).map fun b : Nat => dif xs a b) ++ (List.range k).map fun b : Nat => dif xs i b
theorem pd_next (xs : List Int) (i k : Nat) : pd xs i (k + 1) = pd xs i k ++ [dif xs i k] := by simp [pd, List.range_succ]
theorem pd_row (xs : List Int) (i : Nat) : pd xs i (i + 1) = pd xs (i + 1) 0 := by
  unfold pd
  rw [List.range_succ (n := i), List.flatMap_append]
  simp [List.range_succ]
theorem pd_mem (xs : List Int) (n : Nat) (y : Int) : y ∈ pd xs n 0 ↔ ∃ a b, a < n ∧ b ≤ a ∧ y = dif xs a b := by
  unfold pd
  simp only [List.range_zero, List.map_nil, List.append_nil, List.mem_flatMap, List.mem_range, List.mem_map]
  constructor
  · rintro ⟨a, ha, b, hb, rfl⟩; exact ⟨a, b, ha, by omega, rfl⟩
  · rintro ⟨a, b, ha, hb, rfl⟩; exact ⟨a, ha, b, by omega, rfl⟩
/-- The same as a rising list. -/
def dl (xs : List Int) (i k : Nat) : List Int := (pd xs i k).foldl (fun l d => put d l) []
theorem dl_next (xs : List Int) (i k : Nat) : dl xs i (k + 1) = put (dif xs i k) (dl xs i k) := by
  unfold dl; rw [pd_next, List.foldl_append]; rfl
theorem dl_row (xs : List Int) (i : Nat) : dl xs i (i + 1) = dl xs (i + 1) 0 := by unfold dl; rw [pd_row]
theorem dl_mem (xs : List Int) (i k : Nat) (y : Int) : y ∈ dl xs i k ↔ y ∈ pd xs i k := by
  have key : ∀ (l acc : List Int), y ∈ l.foldl (fun l d => put d l) acc ↔ y ∈ acc ∨ y ∈ l := by
    intro l
    induction l with
    | nil => intro acc; simp
    | cons d t ih =>
      intro acc
      rw [List.foldl_cons, ih, put_mem, List.mem_cons]
      constructor
      · rintro ((h | h) | h)
        · exact .inr (.inl h)
        · exact .inl h
        · exact .inr (.inr h)
      · rintro (h | h | h)
        · exact .inl (.inr h)
        · exact .inl (.inl h)
        · exact .inr h
  unfold dl
  rw [key]
  simp
theorem dl_rises (xs : List Int) (i k : Nat) : (dl xs i k).Pairwise (· < ·) := by
  have key : ∀ (l acc : List Int), acc.Pairwise (· < ·) → (l.foldl (fun l d => put d l) acc).Pairwise (· < ·) := by
    intro l
    induction l with
    | nil => intro acc h; exact h
    | cons d t ih => intro acc h; exact ih _ (put_rises d acc h)
  exact key _ _ List.Pairwise.nil

set_option maxHeartbeats 1000000 in
set_option maxRecDepth 100000 in
theorem dl_c : True := trivial

end Go.Proofs.Ytpmjheofjmdfeaa.diff
