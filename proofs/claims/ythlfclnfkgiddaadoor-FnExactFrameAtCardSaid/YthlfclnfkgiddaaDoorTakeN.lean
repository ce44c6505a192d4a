/- The numbers of a frame's words, plainly. -/
import Derived.Test.YthlfclnfkgiddaaDoorRows
import Derived.Test.YthlfclnfkgiddaaDoorSlc
import Derived.Test.YthlfclnfkgiddaaDoorWordN
import Derived.Test.YthlfclnfkgiddaaDoorNumN
import Derived.Lib.Strings
import Derived.Laws.BitsLemmas
import Derived.WalkKit
namespace Go.Proofs.YthlfclnfkgiddaaDoor.takeN
set_option linter.unusedVariables false
open Go Go.RowKit
open Go.Proofs.YthlfclnfkgiddaaDoor.slc Go.Proofs.YthlfclnfkgiddaaDoor.wordN Go.Proofs.YthlfclnfkgiddaaDoor.numN
set_option linter.unusedVariables false

/-- The first q numbers of words. -/
def nq (L : List UInt8) (q : Nat) : List Nat := (List.range q).map fun i => n4 L (4 * i)
theorem nq_len (L : List UInt8) (q : Nat) : (nq L q).length = q := by simp [nq]
theorem nq_snoc (L : List UInt8) (q : Nat) : nq L (q + 1) = nq L q ++ [n4 L (4 * q)] := by simp [nq, List.range_succ]
theorem nq_at (L : List UInt8) {q i : Nat} (h : i < q) : (nq L q)[i]? = some (n4 L (4 * i)) := by simp [nq, h]
theorem at8_take (L : List UInt8) {m k : Nat} (h : k < m) : at8 (L.take m) k = at8 L k := by
  unfold at8
  simp [List.getD, List.getElem?_take, h]
theorem at8_drop (L : List UInt8) (b k : Nat) : at8 (L.drop b) k = at8 L (b + k) := by
  unfold at8
  simp [List.getD, List.getElem?_drop]
theorem n4_take (L : List UInt8) {m a : Nat} (h : a + 4 ≤ m) : n4 (L.take m) a = n4 L a := by
  rw [n4_is, n4_is, at8_take L (by omega), at8_take L (by omega), at8_take L (by omega), at8_take L (by omega)]
theorem n4_drop (L : List UInt8) (b a : Nat) : n4 (L.drop b) a = n4 L (b + a) := by
  rw [n4_is, n4_is, at8_drop, at8_drop, at8_drop, at8_drop]
  rfl
theorem tk_take (L : List UInt8) {m n : Nat} (h : 8 * n + 4 ≤ m) : tk (L.take m) 0 n = tk L 0 n := by
  unfold tk
  apply List.map_congr_left
  intro i hi
  have := List.mem_range.1 hi
  rw [n4_take L (by omega), n4_take L (by omega)]
theorem tk_drop (L : List UInt8) (b n : Nat) : tk (L.drop b) 0 n = tk L b n := by
  unfold tk
  apply List.map_congr_left
  intro i hi
  rw [n4_drop, n4_drop]
  rw [show b + (0 + 4 + 8 * i) = b + 4 + 8 * i by omega, show b + (0 + 8 + 8 * i) = b + 8 + 8 * i by omega]

end Go.Proofs.YthlfclnfkgiddaaDoor.takeN
