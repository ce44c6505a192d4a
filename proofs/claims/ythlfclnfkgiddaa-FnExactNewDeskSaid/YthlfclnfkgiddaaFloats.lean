/- Floats, plainly: numbers that are not, told as one; rounding keeps bounds. -/
import Derived.Laws.FloatArith
import Derived.Laws.ComplexArith
import Derived.Deep.Draws
namespace Go.Proofs.Ythlfclnfkgiddaa.floats
set_option linter.unusedVariables false
open Go Ieee

/-! ## one not-a-number -/
def isNaN (k : FloatKind) (b : Nat) : Bool := (k.decode b).isNaN
def nan : FloatKind → Nat
  | .f32 => 2143289344
  | .f64 => 9221120237041090561
/-- the number with all not-a-numbers told as one -/
def can (k : FloatKind) (b : Nat) : Nat := if isNaN k b then nan k else b

theorem isNaN_nan (k : FloatKind) : isNaN k (nan k) = true := by cases k <;> decide +kernel
theorem can_can (k : FloatKind) (b : Nat) : can k (can k b) = can k b := by
  unfold can; split <;> simp_all [isNaN_nan]
theorem isNaN_can (k : FloatKind) (b : Nat) : isNaN k (can k b) = isNaN k b := by
  unfold can; split <;> simp_all [isNaN_nan]
theorem can_of_not {k : FloatKind} {b : Nat} (h : isNaN k b = false) : can k b = b := by simp [can, h]
theorem can_of_nan {k : FloatKind} {b : Nat} (h : isNaN k b = true) : can k b = nan k := by simp [can, h]
theorem can_eq_iff {k : FloatKind} {a b : Nat} : can k a = can k b ↔ (a = b ∨ (isNaN k a = true ∧ isNaN k b = true)) := by
  unfold can
  constructor
  · intro h
    split at h <;> split at h
    · right; exact ⟨‹_›, ‹_›⟩
    · rename_i h1 h2; subst h; simp [isNaN_nan] at h2
    · rename_i h1 h2; subst h; simp [isNaN_nan] at h1
    · left; exact h
  · rintro (h | ⟨h1, h2⟩)
    · rw [h]
    · simp [h1, h2]

theorem read_nan_of (f : Format) (s r : Nat) (hs : s < 2) (hb : f.binade ≤ f.infRung) (h1 : f.infRung < r) (h2 : r < f.signWeight) : (f.read (s * f.signWeight + r)).isNaN = true := by
  have e1 : (s * f.signWeight + r) % f.signWeight = r := by
    rw [Nat.add_comm, Nat.add_mul_mod_self_right, Nat.mod_eq_of_lt h2]
  unfold Format.read
  simp only [e1]
  rw [if_neg (by omega), if_neg (by omega), if_neg (by omega)]
  rfl

theorem inf32 : Ieee.single.infRung = 0x7f800000 := by decide +kernel
theorem sw32 : Ieee.single.signWeight = 2 ^ 31 := by decide +kernel
theorem bi32 : Ieee.single.binade = 2 ^ 23 := by decide +kernel
theorem inf64 : Ieee.double.infRung = 0x7ff0000000000000 := by decide +kernel
theorem sw64 : Ieee.double.signWeight = 2 ^ 63 := by decide +kernel
theorem bi64 : Ieee.double.binade = 2 ^ 52 := by decide +kernel

theorem cut_nan32 (t : Nat) : isNaN .f32 ((t % 2) * 2 ^ 31 + 0x7f800000 + 1 + (t / 2) % (2 ^ 23 - 1)) = true := by
  have h := read_nan_of Ieee.single (t % 2) (0x7f800000 + 1 + (t / 2) % (2 ^ 23 - 1)) (by omega) (by rw [bi32, inf32]; decide)
    (by rw [inf32]; omega) (by rw [sw32]; omega)
  rw [show (t % 2) * 2 ^ 31 + 0x7f800000 + 1 + (t / 2) % (2 ^ 23 - 1) = t % 2 * Ieee.single.signWeight + (0x7f800000 + 1 + (t / 2) % (2 ^ 23 - 1)) from by rw [sw32]; omega]
  exact h
theorem cut_nan64 (t : Nat) : isNaN .f64 ((t % 2) * 2 ^ 63 + 0x7ff0000000000000 + 1 + (t / 2) % (2 ^ 52 - 1)) = true := by
  have h := read_nan_of Ieee.double (t % 2) (0x7ff0000000000000 + 1 + (t / 2) % (2 ^ 52 - 1)) (by omega) (by rw [bi64, inf64]; decide)
    (by rw [inf64]; omega) (by rw [sw64]; omega)
  rw [show (t % 2) * 2 ^ 63 + 0x7ff0000000000000 + 1 + (t / 2) % (2 ^ 52 - 1) = t % 2 * Ieee.double.signWeight + (0x7ff0000000000000 + 1 + (t / 2) % (2 ^ 52 - 1)) from by rw [sw64]; omega]
  exact h

theorem nanBits_nan (k : FloatKind) (x y t : Nat) : isNaN k ((Question.nanBits k x y).cut t) = true := by
  cases k
  · exact cut_nan32 t
  · exact cut_nan64 t
theorem nanConv_nan (k : FloatKind) (x t : Nat) : isNaN k ((Question.nanConv k x).cut t) = true := by
  cases k
  · exact cut_nan32 t
  · exact cut_nan64 t

/-! ## an operation, in whatever world -/
def fval (op : BinOp) (k : FloatKind) (w : World) (x y : Nat) : Nat :=
  match floatBits op k x y with
  | some r => r
  | none => (Question.nanBits k x y).cut (w.tape w.drawn (.nanBits k x y))
def fcnt (op : BinOp) (k : FloatKind) (x y : Nat) : Nat := if (floatBits op k x y).isSome then 0 else 1
/-- the same with one not-a-number -/
def fop (op : BinOp) (k : FloatKind) (x y : Nat) : Nat :=
  match floatBits op k x y with
  | some r => can k r
  | none => nan k

def arithOp : BinOp → Bool
  | .add | .sub | .mul | .quo => true
  | _ => false

theorem run_floatop {P : Program} (w : World) (op : BinOp) (t : TypeId) (k : FloatKind) (x y : Nat) (h : arithOp op = true) :
    (binOp op t (.float k x) (.float k y)).run P w = .ok (.float k (fval op k w x y)) (w.drewN (fcnt op k x y)) := by
  unfold fval fcnt
  cases hb : floatBits op k x y with
  | some r => exact run_float_arith w op t k x y r hb
  | none =>
    unfold floatBits at hb
    cases op <;> simp [arithOp] at h <;> simp only at hb <;> simp [binOp, Op.floatArith, hb, Question.forced, World.drewN]

theorem can_fval (op : BinOp) (k : FloatKind) (w : World) (x y : Nat) : can k (fval op k w x y) = fop op k x y := by
  unfold fval fop
  cases floatBits op k x y with
  | some r => rfl
  | none => simp [can, nanBits_nan]

theorem sum_nan_l {a b : Datum} (h : a.isNaN = true) : a.sum b = none := by
  cases a <;> simp_all [Datum.isNaN, Datum.sum]
theorem sum_nan_r {a b : Datum} (h : b.isNaN = true) : a.sum b = none := by
  cases b <;> simp_all [Datum.isNaN]; cases a <;> simp [Datum.sum]
theorem opp_nan (a : Datum) : a.opposite.isNaN = a.isNaN := by cases a <;> rfl
theorem product_nan_l {a b : Datum} (h : a.isNaN = true) : a.product b = none := by
  cases a <;> simp_all [Datum.isNaN, Datum.product]
theorem product_nan_r {a b : Datum} (h : b.isNaN = true) : a.product b = none := by
  cases b <;> simp_all [Datum.isNaN]; cases a <;> simp [Datum.product]
theorem quotient_nan_l {n : Nat} {a b : Datum} (h : a.isNaN = true) : a.quotient n b = none := by
  cases a <;> simp_all [Datum.isNaN, Datum.quotient]
theorem quotient_nan_r {n : Nat} {a b : Datum} (h : b.isNaN = true) : a.quotient n b = none := by
  cases b <;> simp_all [Datum.isNaN]; cases a <;> simp [Datum.quotient]

theorem floatBits_nan_l {op : BinOp} {k : FloatKind} {x y : Nat} (h : isNaN k x = true) : floatBits op k x y = none := by
  have h' : (k.format.read x).isNaN = true := h
  unfold floatBits
  split
  · simp [Format.add, sum_nan_l h']
  · simp [Format.sub, sum_nan_l h']
  · simp [Format.mul, product_nan_l h']
  · simp [Format.div, quotient_nan_l h']
  · rfl
theorem floatBits_nan_r {op : BinOp} {k : FloatKind} {x y : Nat} (h : isNaN k y = true) : floatBits op k x y = none := by
  have h' : (k.format.read y).isNaN = true := h
  unfold floatBits
  split
  · simp [Format.add, sum_nan_r h']
  · simp [Format.sub, sum_nan_r ((opp_nan _).trans h')]
  · simp [Format.mul, product_nan_r h']
  · simp [Format.div, quotient_nan_r h']
  · rfl

theorem fop_can (op : BinOp) (k : FloatKind) (x y : Nat) : fop op k (can k x) (can k y) = fop op k x y := by
  by_cases hx : isNaN k x = true
  · unfold fop; rw [floatBits_nan_l (by rw [isNaN_can]; exact hx), floatBits_nan_l hx]
  · by_cases hy : isNaN k y = true
    · unfold fop; rw [floatBits_nan_r (by rw [isNaN_can]; exact hy), floatBits_nan_r hy]
    · rw [can_of_not (by simpa using hx), can_of_not (by simpa using hy)]
theorem fop_can_l (op : BinOp) (k : FloatKind) (x y : Nat) : fop op k (can k x) y = fop op k x y := by
  rw [← fop_can op k (can k x) y, can_can, fop_can]
theorem fop_can_r (op : BinOp) (k : FloatKind) (x y : Nat) : fop op k x (can k y) = fop op k x y := by
  rw [← fop_can op k x (can k y), can_can, fop_can]
theorem can_fop (op : BinOp) (k : FloatKind) (x y : Nat) : can k (fop op k x y) = fop op k x y := by
  unfold fop; split
  · exact can_can _ _
  · simp [can, isNaN_nan]

/-! ## comparisons -/
theorem order_nan_l {k : FloatKind} {x y : Nat} (h : isNaN k x = true) : k.format.order x y = none := by
  have h' : (k.format.read x).isNaN = true := h
  unfold Format.order
  revert h'; cases k.format.read x <;> simp [Datum.isNaN, Datum.order]
theorem order_nan_r {k : FloatKind} {x y : Nat} (h : isNaN k y = true) : k.format.order x y = none := by
  have h' : (k.format.read y).isNaN = true := h
  unfold Format.order
  revert h'; cases k.format.read y <;> simp [Datum.isNaN]; cases k.format.read x <;> simp [Datum.order]
theorem order_can_l (k : FloatKind) (x y : Nat) : k.format.order (can k x) y = k.format.order x y := by
  by_cases hx : isNaN k x = true
  · rw [order_nan_l hx, order_nan_l (by rw [isNaN_can]; exact hx)]
  · rw [can_of_not (by simpa using hx)]
theorem order_can_r (k : FloatKind) (x y : Nat) : k.format.order x (can k y) = k.format.order x y := by
  by_cases hy : isNaN k y = true
  · rw [order_nan_r hy, order_nan_r (by rw [isNaN_can]; exact hy)]
  · rw [can_of_not (by simpa using hy)]
theorem order_refl {k : FloatKind} {x : Nat} (h : isNaN k x = false) : k.format.order x x = some .eq := by
  have h' : (k.format.read x).isNaN = false := h
  unfold Format.order
  revert h'; cases k.format.read x <;> simp [Datum.isNaN, Datum.order]
theorem order_self (k : FloatKind) (x : Nat) : (k.format.order x x != some .eq) = isNaN k x := by
  by_cases hx : isNaN k x = true
  · rw [order_nan_l hx, hx]; rfl
  · have hx' : isNaN k x = false := by simpa using hx
    rw [order_refl hx', hx']; rfl

end Go.Proofs.Ythlfclnfkgiddaa.floats
