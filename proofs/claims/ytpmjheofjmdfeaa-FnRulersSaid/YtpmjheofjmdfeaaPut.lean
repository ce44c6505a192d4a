/- A number put to its place among rising ones. -/
import Derived.Test.YtpmjheofjmdfeaaRows
import Derived.Test.YtpmjheofjmdfeaaSlc
import Derived.Test.YtpmjheofjmdfeaaSmall
import Derived.Test.YtpmjheofjmdfeaaListI
import Derived.Test.YtpmjheofjmdfeaaMarks
import Derived.WalkKit
import Derived.ProofKit
import Derived.OpenShut
import Derived.ShutString
import Derived.ChangeOld
import Derived.Below
import Derived.Lib.Hide
import Derived.BigQuiet
import Derived.Deep.QuietTactic
import Derived.WalkLawsBesides
import Derived.Outline
import Derived.Deep.QuietTactic
import Derived.BigQuiet
import Derived.Deep.LoopGhost
namespace Go.Proofs.Ytpmjheofjmdfeaa.put
open Go.ChangeShapes Go.WideShapes Go.ChangeAt Go.RowKit
open Go.ChangeMaps (open_string shut_string)
set_option linter.unusedVariables false
open Go Go.RowKit
open Go.Proofs.Ytpmjheofjmdfeaa.slc Go.Proofs.Ytpmjheofjmdfeaa.small Go.Proofs.Ytpmjheofjmdfeaa.listI Go.Proofs.Ytpmjheofjmdfeaa.marks

/-- n put to its place, once. -/
def put (n : Int) : List Int → List Int
  | [] => [n]
  | x :: t => if x < n then x :: put n t else if x = n then x :: t else n :: x :: t
theorem put_len (n : Int) (l : List Int) : (put n l).length ≤ l.length + 1 := by
  induction l with
  | nil => simp [put]
  | cons x t ih =>
    unfold put
    split
    · simp; exact ih
    · split <;> simp
theorem put_mem (n y : Int) (l : List Int) : y ∈ put n l ↔ y = n ∨ y ∈ l := by
  induction l with
  | nil => simp [put]
  | cons x t ih =>
    unfold put
    split
    · simp only [List.mem_cons, ih]
      constructor
      · rintro (h | h | h)
        · exact .inr (.inl h)
        · exact .inl h
        · exact .inr (.inr h)
      · rintro (h | h | h)
        · exact .inr (.inl h)
        · exact .inl h
        · exact .inr (.inr h)
    · split
      · rename_i h1 h2
        subst h2
        simp only [List.mem_cons]
        constructor
        · rintro (h | h)
          · exact .inl h
          · exact .inr (.inr h)
        · rintro (h | h | h)
          · exact .inl h
          · exact .inl h
          · exact .inr h
      · simp only [List.mem_cons]
theorem put_rises (n : Int) (l : List Int) (h : l.Pairwise (· < ·)) : (put n l).Pairwise (· < ·) := by
  induction l with
  | nil => simp [put]
  | cons x t ih =>
    obtain ⟨h1, h2⟩ := List.pairwise_cons.1 h
    unfold put
    split
    · rename_i hx
      refine List.pairwise_cons.2 ⟨fun y hy => ?_, ih h2⟩
      rcases (put_mem n y t).1 hy with rfl | hy
      · exact hx
      · exact h1 y hy
    · split
      · exact h
      · rename_i a b
        refine List.pairwise_cons.2 ⟨fun y hy => ?_, h⟩
        rcases List.mem_cons.1 hy with rfl | hy
        · omega
        · have := h1 y hy; omega
/-- Behind k numbers: what stands, and what is still to come. -/
def rest (n : Int) (d : Bool) (l : List Int) : List Int := if d then l else put n l
theorem rest_keep {n x : Int} {d : Bool} {t out : List Int} (h : d = true ∨ x < n) : out ++ rest n d (x :: t) = (out ++ [x]) ++ rest n d t := by
  cases d
  · have hx : x < n := by rcases h with h | h
                          · cases h
                          · exact h
    simp [rest, put, hx]
  · simp [rest]
theorem rest_here {n x : Int} {t out : List Int} (h : ¬ x < n) (h2 : ¬ n < x) : out ++ rest n false (x :: t) = (out ++ [x]) ++ rest n true t := by
  have e : x = n := by omega
  subst e
  simp [rest, put]
theorem rest_put {n x : Int} {t out : List Int} (h2 : n < x) : out ++ rest n false (x :: t) = ((out ++ [n]) ++ [x]) ++ rest n true t := by
  have h1 : ¬ x < n := by omega
  have h3 : ¬ x = n := by omega
  simp [rest, put, h1, h3]

set_option maxHeartbeats 1000000 in
set_option maxRecDepth 100000 in
theorem put_c : True := trivial

end Go.Proofs.Ytpmjheofjmdfeaa.put
