/- Numbers of bytes; frames as bytes, plainly. -/
import Derived.Test.YthlfclnfkgiddaaDoorRows
import Derived.Test.YthlfclnfkgiddaaDoorSlc
import Derived.Test.YthlfclnfkgiddaaDoorWordN
import Derived.Lib.Strings
import Derived.Laws.BitsLemmas
import Derived.WalkKit
namespace Go.Proofs.YthlfclnfkgiddaaDoor.numN
set_option linter.unusedVariables false
open Go Go.RowKit
open Go.Proofs.YthlfclnfkgiddaaDoor.slc Go.Proofs.YthlfclnfkgiddaaDoor.wordN
set_option linter.unusedVariables false

def at8 (L : List UInt8) (k : Nat) : Nat := (L.getD k 0).toNat
theorem at8_lt (L : List UInt8) (k : Nat) : at8 L k < 256 := UInt8.toNat_lt _
/-- The number of the last j of four bytes from a on. -/
def nf (L : List UInt8) (a : Nat) : Nat → Nat
  | 0 => 0
  | j + 1 => nf L a j * 256 + at8 L (a + (3 - j))
theorem nf_lt (L : List UInt8) (a : Nat) : ∀ j, nf L a j < 256 ^ j
  | 0 => by show (0 : Nat) < 256 ^ 0; decide
  | j + 1 => by
    have h1 := nf_lt L a j
    have h2 := at8_lt L (a + (3 - j))
    unfold nf
    rw [Nat.pow_succ]
    omega
def n4 (L : List UInt8) (a : Nat) : Nat := nf L a 4
theorem n4_is (L : List UInt8) (a : Nat) : n4 L a = at8 L a + at8 L (a + 1) * 256 + at8 L (a + 2) * 65536 + at8 L (a + 3) * 16777216 := by
  show ((((0 * 256 + at8 L (a + (3 - 0))) * 256 + at8 L (a + (3 - 1))) * 256 + at8 L (a + (3 - 2))) * 256 + at8 L (a + (3 - 3))) = _
  rw [show a + (3 - 0) = a + 3 by omega, show a + (3 - 1) = a + 2 by omega, show a + (3 - 2) = a + 1 by omega, show a + (3 - 3) = a by omega]
  omega
theorem n4_lt (L : List UInt8) (a : Nat) : n4 L a < 4294967296 := by
  have := nf_lt L a 4
  exact this
theorem or_high (a b k : Nat) (hk : k ≤ 24) (ha : a < 2 ^ k) (hb : b < 256) : bits .or .i64 (a : Int) ((b * 2 ^ k : Nat) : Int) = ((a + b * 2 ^ k : Nat) : Int) := by
  have hp : 2 ^ k ≤ 2 ^ 24 := Nat.pow_le_pow_right (by decide) hk
  have hbk : b * 2 ^ k < 2 ^ 40 := by
    have : b * 2 ^ k ≤ 255 * 2 ^ 24 := Nat.mul_le_mul (by omega) hp
    omega
  have h1 := (bits_nat .i64 40 (by decide) (fun n x y => Go.Proofs.YthlfclnfkgiddaaDoor.wordN.wrap_small n x y) a (b * 2 ^ k) (by omega) hbk).2
  have h2 : a ||| b * 2 ^ k = a + b * 2 ^ k := by
    have := Nat.two_pow_add_eq_or_of_lt ha b
    rw [Nat.or_comm, Nat.mul_comm b, ← this, Nat.add_comm]
  rw [h2] at h1
  exact h1
/-- The check number of bytes. -/
def chk (n : Int) (l : List UInt8) : Int := l.foldl (fun c b => (641 * c + (b.toNat : Int) + 27) % 65003) n
theorem chk_snoc (n : Int) (l : List UInt8) (c : UInt8) : chk n (l ++ [c]) = (641 * chk n l + (c.toNat : Int) + 27) % 65003 := by
  simp [chk, List.foldl_append]
theorem chk_bd (n : Int) (h : 0 ≤ n ∧ n ≤ 65002) (l : List UInt8) : 0 ≤ chk n l ∧ chk n l ≤ 65002 := by
  induction l generalizing n with
  | nil => simpa [chk] using h
  | cons c r ih => exact ih _ (by dsimp only; omega)
def ck (l : List UInt8) : Nat := (chk 0 l).toNat
theorem ck_is (l : List UInt8) : ((ck l : Nat) : Int) = chk 0 l ∧ ck l ≤ 65002 := by
  have := chk_bd 0 (by omega) l
  unfold ck
  omega
/-- The bytes of the words of a frame: its index and the bits of its numbers. -/
def fw (cn : Nat → Nat) (idx : Nat) (xs : List (Nat × Nat)) : List UInt8 := wb idx 4 ++ xs.flatMap fun x => wb (cn x.1) 4 ++ wb (cn x.2) 4
/-- The bytes of a frame. -/
def fb (cn : Nat → Nat) (idx : Nat) (xs : List (Nat × Nat)) : List UInt8 := fw cn idx xs ++ wb (ck (fw cn idx xs)) 2
theorem fw_len (cn : Nat → Nat) (idx : Nat) (xs : List (Nat × Nat)) : (fw cn idx xs).length = 4 + 8 * xs.length := by
  unfold fw
  rw [List.length_append, wb_len]
  congr 1
  induction xs with
  | nil => rfl
  | cons x t ih =>
    rw [List.flatMap_cons, List.length_append, ih, List.length_append, wb_len, wb_len, List.length_cons]
    omega
theorem fb_len (cn : Nat → Nat) (idx : Nat) (xs : List (Nat × Nat)) : (fb cn idx xs).length = 8 * xs.length + 6 := by
  unfold fb
  rw [List.length_append, fw_len, wb_len]
  omega
theorem fw_snoc (cn : Nat → Nat) (idx : Nat) (xs : List (Nat × Nat)) (x : Nat × Nat) : fw cn idx (xs ++ [x]) = fw cn idx xs ++ (wb (cn x.1) 4 ++ wb (cn x.2) 4) := by
  unfold fw
  rw [List.flatMap_append, List.append_assoc]
  simp
/-- The numbers of a frame's bytes. -/
def tk (L : List UInt8) (a n : Nat) : List (Nat × Nat) := (List.range n).map fun i => (n4 L (a + 4 + 8 * i), n4 L (a + 8 + 8 * i))
theorem tk_len (L : List UInt8) (a n : Nat) : (tk L a n).length = n := by simp [tk]
theorem tk_snoc (L : List UInt8) (a n : Nat) : tk L a (n + 1) = tk L a n ++ [(n4 L (a + 4 + 8 * n), n4 L (a + 8 + 8 * n))] := by simp [tk, List.range_succ]

end Go.Proofs.YthlfclnfkgiddaaDoor.numN
