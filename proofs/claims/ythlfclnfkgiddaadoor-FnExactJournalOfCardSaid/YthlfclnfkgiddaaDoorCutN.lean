/- The parts of a text between bytes, plainly; the list that a text tells. -/
import Derived.Test.YthlfclnfkgiddaaDoorRows
import Derived.Test.YthlfclnfkgiddaaDoorSlc
import Derived.Test.YthlfclnfkgiddaaDoorWordN
import Derived.Test.YthlfclnfkgiddaaDoorDecNum
import Derived.Test.YthlfclnfkgiddaaDoorTextNum
import Derived.Test.YthlfclnfkgiddaaDoorReadNum
import Derived.Lib.SplitLaws
import Derived.Lib.IndexBytes
import Derived.Lib.Strings
import Derived.WalkKit
namespace Go.Proofs.YthlfclnfkgiddaaDoor.cutN
set_option linter.unusedVariables false
open Go Go.RowKit Go.Lib
open Go.Proofs.YthlfclnfkgiddaaDoor.slc Go.Proofs.YthlfclnfkgiddaaDoor.wordN Go.Proofs.YthlfclnfkgiddaaDoor.readNum
set_option linter.unusedVariables false

/-- The parts of a text between bytes c; cur is what the first part begins with. -/
def cw (c : UInt8) (cur : List UInt8) : List UInt8 → List (List UInt8)
  | [] => [cur]
  | x :: t => if x = c then cur :: cw c [] t else cw c (cur ++ [x]) t
/-- A byte ahead of the first part. -/
def pre1 (x : List UInt8) : List (List UInt8) → List (List UInt8)
  | [] => []
  | h :: r => (x ++ h) :: r
theorem cw_cur (c : UInt8) (L : List UInt8) : ∀ cur, cw c cur L = pre1 cur (cw c [] L) := by
  induction L with
  | nil => intro cur; simp [cw, pre1]
  | cons x t ih =>
    intro cur
    by_cases h : x = c
    · simp [cw, h, pre1]
    · rw [cw, cw, if_neg h, if_neg h, ih (cur ++ [x]), ih ([] ++ [x])]
      cases cw c [] t with
      | nil => rfl
      | cons y r => simp [pre1]
theorem index_hit (c : UInt8) (t : List UInt8) : index (c :: t) [c] = 0 := by rw [index_one]; simp [indexByte]
theorem index_miss {x c : UInt8} (h : ¬ x = c) (t : List UInt8) : index (x :: t) [c] = if index t [c] = -1 then -1 else index t [c] + 1 := by
  rw [index_one, index_one]
  simp [indexByte, h]
theorem split_miss {x c : UInt8} (h : ¬ x = c) (t : List UInt8) : ∀ k, splitK [c] 0 k (x :: t) = pre1 [x] (splitK [c] 0 k t) := by
  intro k
  cases k with
  | zero => rfl
  | succ k =>
    have hge := indexByte_ge t c
    rw [← index_one] at hge
    rw [splitK, splitK, index_miss h]
    by_cases hi : index t [c] = -1
    · rw [if_pos hi]; simp [hi, pre1]
    · obtain ⟨i, hii⟩ : ∃ i : Nat, index t [c] = i := ⟨(index t [c]).toNat, by omega⟩
      rw [if_neg hi, hii]
      have e1 : ((i : Int) + 1 == -1) = false := by simp; omega
      have e2 : ((i : Int) == -1) = false := by simp
      rw [e1, e2]
      have e3 : ((i : Int) + 1).toNat = i + 1 := by omega
      simp [e3, pre1]
theorem split_is (c : UInt8) (L : List UInt8) : splitK [c] 0 (L.count c) L = cw c [] L := by
  induction L with
  | nil => rfl
  | cons x t ih =>
    by_cases h : x = c
    · subst h
      rw [List.count_cons_self, splitK, index_hit, cw, if_pos rfl, ← ih]
      rfl
    · rw [List.count_cons_of_ne (fun e => h (by first | exact e | exact e.symm)), split_miss h, ih, cw, if_neg h, cw_cur c t ([] ++ [x]), List.nil_append]
theorem cw_len (c : UInt8) (L : List UInt8) : ∀ cur, (cw c cur L).length = L.count c + 1 := by
  induction L with
  | nil => intro cur; rfl
  | cons x t ih =>
    intro cur
    by_cases h : x = c
    · subst h
      rw [cw, if_pos rfl, List.length_cons, ih, List.count_cons_self]
    · rw [cw, if_neg h, ih, List.count_cons_of_ne (fun e => h (by first | exact e | exact e.symm))]
/-- Cells of texts. -/
def st8 (P : List (List UInt8)) : List Value := P.map fun p => .string (bs p)
theorem st8_len (P : List (List UInt8)) : (st8 P).length = P.length := by simp [st8]
theorem st8_app (P Q : List (List UInt8)) : st8 (P ++ Q) = st8 P ++ st8 Q := by simp [st8]
theorem st8_one (P : List (List UInt8)) : ∀ u ∈ st8 P, u.oneCell' = true := fun u hu => by
  obtain ⟨x, _, rfl⟩ := List.mem_map.1 hu
  rfl
theorem st8_split (s : ByteArray) (c : UInt8) : (splitB ⟨#[c]⟩ 0 (countB s ⟨#[c]⟩) s).map Value.string = st8 (cw c [] s.data.toList) := by
  have h1 := splitB_data ⟨#[c]⟩ 0 (countB s ⟨#[c]⟩) s
  have h2 : countB s ⟨#[c]⟩ = s.data.toList.count c := count_one c _
  rw [show (⟨#[c]⟩ : ByteArray).data.toList = [c] from rfl, h2, split_is] at h1
  rw [← h1, h2]
  unfold st8
  rw [List.map_map]
  apply List.map_congr_left
  intro p _
  show _ = Value.string (bs p.data.toList)
  rw [bs_of]
/-- What the parts of a list's text tell. -/
def rv (P : List (List UInt8)) : List Int := P.map fun p => (readT p).1
def rok (P : List (List UInt8)) : Bool := P.all fun p => (readT p).2
theorem rv_len (P : List (List UInt8)) : (rv P).length = P.length := by simp [rv]
/-- The list with a text. -/
def RL (L : List UInt8) : List Int × Bool :=
  if L = [110, 111, 110, 101] then ([], true) else if 64 < L.count 44 + 1 then ([], false) else if rok (cw 44 [] L) = true then (rv (cw 44 [] L), true) else ([], false)

end Go.Proofs.YthlfclnfkgiddaaDoor.cutN
