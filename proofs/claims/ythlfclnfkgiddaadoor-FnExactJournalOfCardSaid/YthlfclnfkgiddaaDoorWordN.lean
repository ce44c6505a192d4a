/- Bytes of numbers, plainly. -/
import Derived.Test.YthlfclnfkgiddaaDoorRows
import Derived.Test.YthlfclnfkgiddaaDoorSlc
import Derived.Lib.Strings
import Derived.Laws.BytesString
import Derived.Laws.Concat
import Derived.WalkKit
import Derived.Laws.BitsLemmas
namespace Go.Proofs.YthlfclnfkgiddaaDoor.wordN
set_option linter.unusedVariables false
open Go Go.RowKit
open Go.Proofs.YthlfclnfkgiddaaDoor.slc
set_option linter.unusedVariables false

/-- The bytes of a number, the least one first. -/
def wb (n m : Nat) : List UInt8 := (List.range m).map fun k => UInt8.ofNat (n / 256 ^ k)
theorem wb_len (n m : Nat) : (wb n m).length = m := by simp [wb]
theorem wb_snoc (n m : Nat) : wb n (m + 1) = wb n m ++ [UInt8.ofNat (n / 256 ^ m)] := by simp [wb, List.range_succ]
/-- Cells of bytes. -/
def u8s (L : List UInt8) : List Value := L.map fun c => .int .u8 (c.toNat : Int)
theorem u8s_len (L : List UInt8) : (u8s L).length = L.length := by simp [u8s]
theorem u8s_app (L M : List UInt8) : u8s (L ++ M) = u8s L ++ u8s M := by simp [u8s]
theorem ofNat_toNat (n : Nat) : (UInt8.ofNat n).toNat = n % 256 := by simp [UInt8.toNat_ofNat']
theorem fold_push (L : List UInt8) : ∀ b : ByteArray, ((L.map fun c => ((c.toNat : Int))).foldl (fun r n => r.push (UInt8.ofNat n.toNat)) b).data.toList = b.data.toList ++ L := by
  induction L with
  | nil => intro b; simp
  | cons c t ih =>
    intro b
    rw [List.map_cons, List.foldl_cons, ih]
    simp [ByteArray.push]
/-- A text with these bytes. -/
def bs (L : List UInt8) : ByteArray := ⟨L.toArray⟩
theorem bs_list (L : List UInt8) : (bs L).data.toList = L := by simp [bs]
theorem bs_of (s : ByteArray) : bs s.data.toList = s := by
  cases s with | mk d => simp [bs]
theorem bs_eq {s : ByteArray} {L : List UInt8} (h : s.data.toList = L) : s = bs L := by rw [← h, bs_of]
theorem bs_size (L : List UInt8) : (bs L).size = L.length := by simp [bs, ByteArray.size]
theorem bs_app (L M : List UInt8) : bs L ++ bs M = bs (L ++ M) := ByteArray.mk_append_mk L M
theorem fold_bs (L : List UInt8) : (L.map fun c => ((c.toNat : Int))).foldl (fun r n => r.push (UInt8.ofNat n.toNat)) ByteArray.empty = bs L := bs_eq (by rw [fold_push]; rfl)
theorem wrap_small (n : Int) (h0 : 0 ≤ n) (h1 : n < 2 ^ 40) : IntKind.i64.wrap n = n := by rw [IntKind.wrap_i64]; omega
theorem and255 (q : Nat) (h : q < 2 ^ 40) : bits .and .i64 (q : Int) 255 = ((q % 256 : Nat) : Int) := by
  have h1 := (bits_nat .i64 40 (by decide) (fun n a b => wrap_small n a b) q 255 h (by decide)).1
  have h2 : q &&& 255 = q % 256 := by rw [show 255 = 2 ^ 8 - 1 from rfl, Nat.and_two_pow_sub_one_eq_mod]
  rw [h2] at h1
  exact h1
theorem or_low (a b : Nat) (ha : a < 2 ^ 30) (hb : b < 256) : bits .or .i64 ((a * 256 : Nat) : Int) (b : Int) = ((a * 256 + b : Nat) : Int) := by
  have h1 := (bits_nat .i64 40 (by decide) (fun n x y => wrap_small n x y) (a * 256) b (by omega) (by omega)).2
  have h2 : a * 256 ||| b = a * 256 + b := by
    have := Nat.two_pow_add_eq_or_of_lt (show b < 2 ^ 8 from hb) a
    rw [show a * 256 = 2 ^ 8 * a by omega]
    exact this.symm
  rw [h2] at h1
  exact h1

end Go.Proofs.YthlfclnfkgiddaaDoor.wordN
