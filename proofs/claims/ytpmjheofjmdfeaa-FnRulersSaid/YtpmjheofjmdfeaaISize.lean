/- How many different numbers a set of integers holds. -/
import Derived.Test.YtpmjheofjmdfeaaRows
import Derived.Test.YtpmjheofjmdfeaaSlc
import Derived.Test.YtpmjheofjmdfeaaSmall
import Derived.Test.YtpmjheofjmdfeaaListI
import Derived.Test.YtpmjheofjmdfeaaMarks
import Derived.Test.YtpmjheofjmdfeaaPut
import Derived.Test.YtpmjheofjmdfeaaDiff
import Derived.Test.YtpmjheofjmdfeaaISet
import Derived.WalkKit
import Derived.ProofKit
import Derived.OpenShut
import Derived.ShutString
import Derived.ChangeOld
import Derived.Below
import Derived.Lib.Hide
import Derived.BigQuiet
import Derived.Deep.QuietTactic
import Derived.WalkLawsBesides
import Derived.Outline
import Derived.Deep.LoopGhost
import Derived.Maps.OwnOps
import Derived.Maps.OwnSet
import Derived.Maps.Views
import Derived.MapViews
namespace Go.Proofs.Ytpmjheofjmdfeaa.iSize
open Go.ChangeShapes Go.WideShapes Go.ChangeAt Go.RowKit
open Go.ChangeMaps (open_string shut_string)
set_option linter.unusedVariables false
open Go Go.RowKit Go.Maps
open Go.Proofs.Ytpmjheofjmdfeaa.slc Go.Proofs.Ytpmjheofjmdfeaa.small Go.Proofs.Ytpmjheofjmdfeaa.listI Go.Proofs.Ytpmjheofjmdfeaa.marks Go.Proofs.Ytpmjheofjmdfeaa.put Go.Proofs.Ytpmjheofjmdfeaa.diff Go.Proofs.Ytpmjheofjmdfeaa.iSet

theorem put_length (n : Int) (l : List Int) (h : l.Pairwise (· < ·)) : (put n l).length = if n ∈ l then l.length else l.length + 1 := by
  induction l with
  | nil => simp [put]
  | cons x t ih =>
    have ht := (List.pairwise_cons.1 h).2
    have hx := (List.pairwise_cons.1 h).1
    unfold put
    by_cases h1 : x < n
    · rw [if_pos h1, List.length_cons, ih ht]
      have hne : n ≠ x := by omega
      by_cases hm : n ∈ t
      · simp [hm]
      · simp [hm, hne]
    · rw [if_neg h1]
      by_cases h2 : n < x
      · have hm : n ∉ x :: t := by
          intro hm
          rcases List.mem_cons.1 hm with h' | h'
          · omega
          · have := hx n h'; omega
        rw [if_neg (show ¬ x = n by omega), if_neg hm]; rfl
      · have he : n = x := by omega
        rw [if_pos he.symm, if_pos (by rw [he]; exact List.mem_cons_self ..)]
theorem key_self (x : Int) : (Lit.int .i64 x).sameKey (.int .i64 x) = true := by simp [Lit.sameKey]
theorem key_int (x y : Int) : (Lit.int .i64 x).sameKey (.int .i64 y) = decide (x = y) := by
  by_cases h : x = y
  · subst h; rw [key_self]; simp
  · rw [sameKey_ne (by intro e; injection e with _ e; exact h e)]; simp [h]
theorem any_int (L : List Int) (x : Int) : (L.map fun x => Lit.int .i64 x).any (fun y => y.sameKey (.int .i64 x)) = decide (x ∈ L) := by
  induction L with
  | nil => simp
  | cons a t ih => 
    rw [List.map_cons, List.any_cons, ih, key_int]
    by_cases h : a = x
    · subst h; simp
    · have h' : ¬ x = a := fun e => h e.symm
      simp [h, h']
theorem add_int (L : List Int) (x : Int) : addKey (L.map fun x => Lit.int .i64 x) (.int .i64 x) = (if x ∈ L then L else L ++ [x]).map fun x => Lit.int .i64 x := by
  unfold addKey
  rw [any_int]
  by_cases h : x ∈ L
  · simp [h]
  · simp [h]
theorem both (S : List Int) : ∀ A B : List Int, A.length = B.length → (∀ x, x ∈ A ↔ x ∈ B) → B.Pairwise (· < ·) →
    ((S.map fun x => Lit.int .i64 x).foldl addKey (A.map fun x => Lit.int .i64 x)).length = (S.foldl (fun l d => put d l) B).length := by
  induction S with
  | nil => intro A B h _ _; simpa using h
  | cons x t ih =>
    intro A B h hm hB
    rw [List.map_cons, List.foldl_cons, List.foldl_cons, add_int]
    refine ih _ _ ?_ (fun y => ?_) (put_rises x B hB)
    · rw [put_length x B hB]
      by_cases hx : x ∈ A
      · rw [if_pos hx, if_pos ((hm x).1 hx), h]
      · rw [if_neg hx, if_neg (fun h' => hx ((hm x).2 h'))]; simp [h]
    · rw [put_mem]
      by_cases hx : x ∈ A
      · rw [if_pos hx, hm y]
        exact ⟨.inr, fun h => h.elim (fun e => by rw [e]; exact (hm x).1 hx) id⟩
      · rw [if_neg hx, List.mem_append, List.mem_singleton, hm y]
        exact Or.comm
theorem isize {w : World} {b n i k : Nat} {xs : List Int} (h : ISet w b n (pd xs i k)) :
    ∃ D : DataW Unit, w.ownsMap Try.prog 2 (plainElem Try.prog 4) b n D ∧ size D = (dl xs i k).length := by
  obtain ⟨D, ho, hm, hD, hS⟩ := h
  refine ⟨D, ho, ?_⟩
  rw [hS, size_setOf _ _ (fun x hx => by obtain ⟨y, _, rfl⟩ := List.mem_map.1 hx; exact trivial)]
  exact both (pd xs i k) [] [] rfl (fun _ => Iff.rfl) List.Pairwise.nil

end Go.Proofs.Ytpmjheofjmdfeaa.iSize
