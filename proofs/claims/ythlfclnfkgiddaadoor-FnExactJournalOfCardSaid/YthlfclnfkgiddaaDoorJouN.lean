/- Journals of lines, plainly. -/
import Derived.Test.YthlfclnfkgiddaaDoorRows
import Derived.Test.YthlfclnfkgiddaaDoorSlc
import Derived.Test.YthlfclnfkgiddaaDoorWordN
import Derived.Test.YthlfclnfkgiddaaDoorNumN
import Derived.Test.YthlfclnfkgiddaaDoorDecNum
import Derived.Test.YthlfclnfkgiddaaDoorTextNum
import Derived.Test.YthlfclnfkgiddaaDoorReadNum
import Derived.Test.YthlfclnfkgiddaaDoorCutN
import Derived.Lib.Strings
import Derived.Lib.ItoaNum
import Derived.WalkKit
namespace Go.Proofs.YthlfclnfkgiddaaDoor.jouN
set_option linter.unusedVariables false
open Go Go.RowKit Go.Lib
open Go.Proofs.YthlfclnfkgiddaaDoor.slc Go.Proofs.YthlfclnfkgiddaaDoor.wordN Go.Proofs.YthlfclnfkgiddaaDoor.numN Go.Proofs.YthlfclnfkgiddaaDoor.readNum Go.Proofs.YthlfclnfkgiddaaDoor.cutN
set_option linter.unusedVariables false

/-- What a journal has for a line behind the check number c. -/
def ent (c : Int) (l : List UInt8) : List UInt8 := itoa (chk c l) ++ [32] ++ l ++ [10]
/-- The check number behind lines. -/
def ckl (c : Int) : List (List UInt8) → Int
  | [] => c
  | l :: t => ckl (chk c l) t
/-- The journal of lines behind the check number c. -/
def jr (c : Int) : List (List UInt8) → List UInt8
  | [] => []
  | l :: t => ent c l ++ jr (chk c l) t
theorem ckl_snoc (c : Int) (P : List (List UInt8)) (l : List UInt8) : ckl c (P ++ [l]) = chk (ckl c P) l := by
  induction P generalizing c with
  | nil => rfl
  | cons x t ih => exact ih _
theorem jr_snoc (c : Int) (P : List (List UInt8)) (l : List UInt8) : jr c (P ++ [l]) = jr c P ++ ent (ckl c P) l := by
  induction P generalizing c with
  | nil => simp [jr, ckl]
  | cons x t ih =>
    rw [List.cons_append, jr, ih, jr, List.append_assoc]
    rfl
theorem ckl_bd {c : Int} (h : 0 ≤ c ∧ c ≤ 65002) (P : List (List UInt8)) : 0 ≤ ckl c P ∧ ckl c P ≤ 65002 := by
  induction P generalizing c with
  | nil => exact h
  | cons x t ih => exact ih (chk_bd c h x)
theorem itoa_small {n : Int} (h : 0 ≤ n ∧ n ≤ 65002) : 1 ≤ (itoa n).length ∧ (itoa n).length ≤ 17 := itoa_17 n (by unfold Go.Proofs.YthlfclnfkgiddaaDoor.textNum.okN; simp; omega)
theorem ent_len {c : Int} (h : 0 ≤ c ∧ c ≤ 65002) (l : List UInt8) : l.length + 3 ≤ (ent c l).length ∧ (ent c l).length ≤ l.length + 19 := by
  have := itoa_small (chk_bd c h l)
  unfold ent
  simp only [List.length_append, List.length_singleton]
  omega
/-- How many bytes and lines. -/
def tot (P : List (List UInt8)) : Nat := (P.map fun l => l.length + 3).sum
theorem tot_snoc (P : List (List UInt8)) (l : List UInt8) : tot (P ++ [l]) = tot P + (l.length + 3) := by simp [tot]
theorem jr_tot {c : Int} (h : 0 ≤ c ∧ c ≤ 65002) (P : List (List UInt8)) : tot P ≤ (jr c P).length := by
  induction P generalizing c with
  | nil => simp [tot, jr]
  | cons x t ih =>
    have h1 := ih (chk_bd c h x)
    have h2 := (ent_len h x).1
    simp only [tot, List.map_cons, List.sum_cons, jr, List.length_append] at h1 ⊢
    omega
/-- A line among them has a newline. -/
def nl (P : List (List UInt8)) : Prop := ∃ l ∈ P, (10 : UInt8) ∈ l
theorem jr_le {c : Int} (P : List (List UInt8)) (k : Nat) : (jr c (P.take k)).length ≤ (jr c P).length := by
  induction P generalizing c k with
  | nil => simp
  | cons x t ih =>
    cases k with
    | zero => simp [jr]
    | succ k =>
      rw [List.take_succ_cons, jr, jr, List.length_append, List.length_append]
      have := ih (c := chk c x) k
      omega
open Classical in
/-- The journal of lines, if there is one. -/
noncomputable def JO (P : List (List UInt8)) : List UInt8 × Bool := if nl P ∨ 6000 < (jr 0 P).length then ([], false) else (jr 0 P, true)
theorem JO_no {P : List (List UInt8)} (h : nl P ∨ 6000 < (jr 0 P).length) : JO P = ([], false) := by unfold JO; rw [if_pos h]
theorem JO_yes {P : List (List UInt8)} (h : ¬ nl P) (h2 : (jr 0 P).length ≤ 6000) : JO P = (jr 0 P, true) := by unfold JO; rw [if_neg (by rintro (h3 | h3); exact h h3; omega)]

end Go.Proofs.YthlfclnfkgiddaaDoor.jouN
