/- Floats, plainly: numbers that are not, told as one; rounding keeps bounds. -/
/- Rounding to the nearest keeps bounds that the format has. -/
/- What the words of a format stand for, as whole numbers of its least places; what each operation keeps. -/
/- Conversions between the two formats, in whatever world; comparisons as those of values. -/
import Derived.Laws.FloatArith
import Derived.Laws.ComplexArith
import Derived.Deep.Draws
namespace Go.Proofs.Ytbefoiikbbjjfaa.floats
set_option linter.unusedVariables false
open Go Ieee

/-! ## one not-a-number -/
def isNaN (k : FloatKind) (b : Nat) : Bool := (k.decode b).isNaN
def nan : FloatKind → Nat
  | .f32 => 2143289344
  | .f64 => 9221120237041090561
/-- the number with all not-a-numbers told as one -/
def can (k : FloatKind) (b : Nat) : Nat := if isNaN k b then nan k else b

theorem isNaN_nan (k : FloatKind) : isNaN k (nan k) = true := by cases k <;> decide +kernel
theorem can_can (k : FloatKind) (b : Nat) : can k (can k b) = can k b := by
  unfold can; split <;> simp_all [isNaN_nan]
theorem isNaN_can (k : FloatKind) (b : Nat) : isNaN k (can k b) = isNaN k b := by
  unfold can; split <;> simp_all [isNaN_nan]
theorem can_of_not {k : FloatKind} {b : Nat} (h : isNaN k b = false) : can k b = b := by simp [can, h]
theorem can_of_nan {k : FloatKind} {b : Nat} (h : isNaN k b = true) : can k b = nan k := by simp [can, h]
theorem can_eq_iff {k : FloatKind} {a b : Nat} : can k a = can k b ↔ (a = b ∨ (isNaN k a = true ∧ isNaN k b = true)) := by
  unfold can
  constructor
  · intro h
    split at h <;> split at h
    · right; exact ⟨‹_›, ‹_›⟩
    · rename_i h1 h2; subst h; simp [isNaN_nan] at h2
    · rename_i h1 h2; subst h; simp [isNaN_nan] at h1
    · left; exact h
  · rintro (h | ⟨h1, h2⟩)
    · rw [h]
    · simp [h1, h2]

theorem read_nan_of (f : Format) (s r : Nat) (hs : s < 2) (hb : f.binade ≤ f.infRung) (h1 : f.infRung < r) (h2 : r < f.signWeight) : (f.read (s * f.signWeight + r)).isNaN = true := by
  have e1 : (s * f.signWeight + r) % f.signWeight = r := by
    rw [Nat.add_comm, Nat.add_mul_mod_self_right, Nat.mod_eq_of_lt h2]
  unfold Format.read
  simp only [e1]
  rw [if_neg (by omega), if_neg (by omega), if_neg (by omega)]
  rfl

theorem inf32 : Ieee.single.infRung = 0x7f800000 := by decide +kernel
theorem sw32 : Ieee.single.signWeight = 2 ^ 31 := by decide +kernel
theorem bi32 : Ieee.single.binade = 2 ^ 23 := by decide +kernel
theorem inf64 : Ieee.double.infRung = 0x7ff0000000000000 := by decide +kernel
theorem sw64 : Ieee.double.signWeight = 2 ^ 63 := by decide +kernel
theorem bi64 : Ieee.double.binade = 2 ^ 52 := by decide +kernel

theorem cut_nan32 (t : Nat) : isNaN .f32 ((t % 2) * 2 ^ 31 + 0x7f800000 + 1 + (t / 2) % (2 ^ 23 - 1)) = true := by
  have h := read_nan_of Ieee.single (t % 2) (0x7f800000 + 1 + (t / 2) % (2 ^ 23 - 1)) (by omega) (by rw [bi32, inf32]; decide)
    (by rw [inf32]; omega) (by rw [sw32]; omega)
  rw [show (t % 2) * 2 ^ 31 + 0x7f800000 + 1 + (t / 2) % (2 ^ 23 - 1) = t % 2 * Ieee.single.signWeight + (0x7f800000 + 1 + (t / 2) % (2 ^ 23 - 1)) from by rw [sw32]; omega]
  exact h
theorem cut_nan64 (t : Nat) : isNaN .f64 ((t % 2) * 2 ^ 63 + 0x7ff0000000000000 + 1 + (t / 2) % (2 ^ 52 - 1)) = true := by
  have h := read_nan_of Ieee.double (t % 2) (0x7ff0000000000000 + 1 + (t / 2) % (2 ^ 52 - 1)) (by omega) (by rw [bi64, inf64]; decide)
    (by rw [inf64]; omega) (by rw [sw64]; omega)
  rw [show (t % 2) * 2 ^ 63 + 0x7ff0000000000000 + 1 + (t / 2) % (2 ^ 52 - 1) = t % 2 * Ieee.double.signWeight + (0x7ff0000000000000 + 1 + (t / 2) % (2 ^ 52 - 1)) from by rw [sw64]; omega]
  exact h

theorem nanBits_nan (k : FloatKind) (x y t : Nat) : isNaN k ((Question.nanBits k x y).cut t) = true := by
  cases k
  · exact cut_nan32 t
  · exact cut_nan64 t
theorem nanConv_nan (k : FloatKind) (x t : Nat) : isNaN k ((Question.nanConv k x).cut t) = true := by
  cases k
  · exact cut_nan32 t
  · exact cut_nan64 t

/-! ## an operation, in whatever world -/
def fval (op : BinOp) (k : FloatKind) (w : World) (x y : Nat) : Nat :=
  match floatBits op k x y with
  | some r => r
  | none => (Question.nanBits k x y).cut (w.tape w.drawn (.nanBits k x y))
def fcnt (op : BinOp) (k : FloatKind) (x y : Nat) : Nat := if (floatBits op k x y).isSome then 0 else 1
/-- the same with one not-a-number -/
def fop (op : BinOp) (k : FloatKind) (x y : Nat) : Nat :=
  match floatBits op k x y with
  | some r => can k r
  | none => nan k

def arithOp : BinOp → Bool
  | .add | .sub | .mul | .quo => true
  | _ => false

theorem run_floatop {P : Program} (w : World) (op : BinOp) (t : TypeId) (k : FloatKind) (x y : Nat) (h : arithOp op = true) :
    (binOp op t (.float k x) (.float k y)).run P w = .ok (.float k (fval op k w x y)) (w.drewN (fcnt op k x y)) := by
  unfold fval fcnt
  cases hb : floatBits op k x y with
  | some r => exact run_float_arith w op t k x y r hb
  | none =>
    unfold floatBits at hb
    cases op <;> simp [arithOp] at h <;> simp only at hb <;> simp [binOp, Op.floatArith, hb, Question.forced, World.drewN]

theorem can_fval (op : BinOp) (k : FloatKind) (w : World) (x y : Nat) : can k (fval op k w x y) = fop op k x y := by
  unfold fval fop
  cases floatBits op k x y with
  | some r => rfl
  | none => simp [can, nanBits_nan]

theorem sum_nan_l {a b : Datum} (h : a.isNaN = true) : a.sum b = none := by
  cases a <;> simp_all [Datum.isNaN, Datum.sum]
theorem sum_nan_r {a b : Datum} (h : b.isNaN = true) : a.sum b = none := by
  cases b <;> simp_all [Datum.isNaN]; cases a <;> simp [Datum.sum]
theorem opp_nan (a : Datum) : a.opposite.isNaN = a.isNaN := by cases a <;> rfl
theorem product_nan_l {a b : Datum} (h : a.isNaN = true) : a.product b = none := by
  cases a <;> simp_all [Datum.isNaN, Datum.product]
theorem product_nan_r {a b : Datum} (h : b.isNaN = true) : a.product b = none := by
  cases b <;> simp_all [Datum.isNaN]; cases a <;> simp [Datum.product]
theorem quotient_nan_l {n : Nat} {a b : Datum} (h : a.isNaN = true) : a.quotient n b = none := by
  cases a <;> simp_all [Datum.isNaN, Datum.quotient]
theorem quotient_nan_r {n : Nat} {a b : Datum} (h : b.isNaN = true) : a.quotient n b = none := by
  cases b <;> simp_all [Datum.isNaN]; cases a <;> simp [Datum.quotient]

theorem floatBits_nan_l {op : BinOp} {k : FloatKind} {x y : Nat} (h : isNaN k x = true) : floatBits op k x y = none := by
  have h' : (k.format.read x).isNaN = true := h
  unfold floatBits
  split
  · simp [Format.add, sum_nan_l h']
  · simp [Format.sub, sum_nan_l h']
  · simp [Format.mul, product_nan_l h']
  · simp [Format.div, quotient_nan_l h']
  · rfl
theorem floatBits_nan_r {op : BinOp} {k : FloatKind} {x y : Nat} (h : isNaN k y = true) : floatBits op k x y = none := by
  have h' : (k.format.read y).isNaN = true := h
  unfold floatBits
  split
  · simp [Format.add, sum_nan_r h']
  · simp [Format.sub, sum_nan_r ((opp_nan _).trans h')]
  · simp [Format.mul, product_nan_r h']
  · simp [Format.div, quotient_nan_r h']
  · rfl

theorem fop_can (op : BinOp) (k : FloatKind) (x y : Nat) : fop op k (can k x) (can k y) = fop op k x y := by
  by_cases hx : isNaN k x = true
  · unfold fop; rw [floatBits_nan_l (by rw [isNaN_can]; exact hx), floatBits_nan_l hx]
  · by_cases hy : isNaN k y = true
    · unfold fop; rw [floatBits_nan_r (by rw [isNaN_can]; exact hy), floatBits_nan_r hy]
    · rw [can_of_not (by simpa using hx), can_of_not (by simpa using hy)]
theorem fop_can_l (op : BinOp) (k : FloatKind) (x y : Nat) : fop op k (can k x) y = fop op k x y := by
  rw [← fop_can op k (can k x) y, can_can, fop_can]
theorem fop_can_r (op : BinOp) (k : FloatKind) (x y : Nat) : fop op k x (can k y) = fop op k x y := by
  rw [← fop_can op k x (can k y), can_can, fop_can]
theorem can_fop (op : BinOp) (k : FloatKind) (x y : Nat) : can k (fop op k x y) = fop op k x y := by
  unfold fop; split
  · exact can_can _ _
  · simp [can, isNaN_nan]

/-! ## comparisons -/
theorem order_nan_l {k : FloatKind} {x y : Nat} (h : isNaN k x = true) : k.format.order x y = none := by
  have h' : (k.format.read x).isNaN = true := h
  unfold Format.order
  revert h'; cases k.format.read x <;> simp [Datum.isNaN, Datum.order]
theorem order_nan_r {k : FloatKind} {x y : Nat} (h : isNaN k y = true) : k.format.order x y = none := by
  have h' : (k.format.read y).isNaN = true := h
  unfold Format.order
  revert h'; cases k.format.read y <;> simp [Datum.isNaN]; cases k.format.read x <;> simp [Datum.order]
theorem order_can_l (k : FloatKind) (x y : Nat) : k.format.order (can k x) y = k.format.order x y := by
  by_cases hx : isNaN k x = true
  · rw [order_nan_l hx, order_nan_l (by rw [isNaN_can]; exact hx)]
  · rw [can_of_not (by simpa using hx)]
theorem order_can_r (k : FloatKind) (x y : Nat) : k.format.order x (can k y) = k.format.order x y := by
  by_cases hy : isNaN k y = true
  · rw [order_nan_r hy, order_nan_r (by rw [isNaN_can]; exact hy)]
  · rw [can_of_not (by simpa using hy)]
theorem order_refl {k : FloatKind} {x : Nat} (h : isNaN k x = false) : k.format.order x x = some .eq := by
  have h' : (k.format.read x).isNaN = false := h
  unfold Format.order
  revert h'; cases k.format.read x <;> simp [Datum.isNaN, Datum.order]
theorem order_self (k : FloatKind) (x : Nat) : (k.format.order x x != some .eq) = isNaN k x := by
  by_cases hx : isNaN k x = true
  · rw [order_nan_l hx, hx]; rfl
  · have hx' : isNaN k x = false := by simpa using hx
    rw [order_refl hx', hx']; rfl

end Go.Proofs.Ytbefoiikbbjjfaa.floats

namespace Go.Proofs.Ytbefoiikbbjjfaa.round
set_option linter.unusedVariables false
open Go Ieee

theorem cut_le {neg : Bool} {n drop A : Nat} (h : n ≤ A * 2 ^ drop) : Toward.even.cut neg n drop ≤ A := by
  unfold Toward.cut
  simp only [Nat.shiftLeft_eq, Nat.one_mul]
  by_cases hd : drop ≤ n.log2 + 2
  · rw [Nat.min_eq_left hd]
    have hg : 0 < 2 ^ drop := Nat.two_pow_pos _
    generalize 2 ^ drop = g at *
    have e := Nat.div_add_mod n g
    have hr := Nat.mod_lt n hg
    by_cases h0 : n % g = 0
    · have : (decide (g < 2 * (n % g)) || (g == 2 * (n % g) && n / g % 2 == 1)) = false := by
        rw [h0]; simp; omega
      rw [this]
      simp only [Bool.toNat_false, Nat.add_zero]
      exact Nat.div_le_of_le_mul (by rw [Nat.mul_comm]; exact h)
    · have hlt : n / g < A := by
        rw [Nat.div_lt_iff_lt_mul hg]
        rcases Nat.lt_or_eq_of_le h with h | h
        · exact h
        · subst h; simp at h0
      have := Bool.toNat_le (decide (g < 2 * (n % g)) || (g == 2 * (n % g) && n / g % 2 == 1))
      omega
  · have hn : n < 2 ^ (n.log2 + 1) := Nat.lt_log2_self
    have hmin : min drop (n.log2 + 2) = n.log2 + 2 := Nat.min_eq_right (by omega)
    rw [hmin]
    have e2 : 2 ^ (n.log2 + 2) = 2 * 2 ^ (n.log2 + 1) := by rw [Nat.pow_succ (n := 2) (m := n.log2 + 1), Nat.mul_comm]
    rw [e2]
    generalize 2 ^ (n.log2 + 1) = g at *
    rw [Nat.div_eq_of_lt (by omega), Nat.mod_eq_of_lt (by omega)]
    have : (decide (2 * g < 2 * n) || (2 * g == 2 * n && 0 % 2 == 1)) = false := by simp; omega
    rw [this]; simp

theorem le_cut {neg : Bool} {n drop A : Nat} (h : A * 2 ^ drop ≤ n) : A ≤ Toward.even.cut neg n drop := by
  unfold Toward.cut
  simp only [Nat.shiftLeft_eq, Nat.one_mul]
  by_cases hd : drop ≤ n.log2 + 2
  · rw [Nat.min_eq_left hd]
    exact Nat.le_trans ((Nat.le_div_iff_mul_le (Nat.two_pow_pos _)).2 h) (Nat.le_add_right _ _)
  · have hn : n < 2 ^ (n.log2 + 1) := Nat.lt_log2_self
    have hle : 2 ^ (n.log2 + 1) ≤ 2 ^ drop := Nat.pow_le_pow_right (by omega) (by omega)
    have : A = 0 := by
      rcases Nat.eq_zero_or_pos A with h0 | h0
      · exact h0
      · have := Nat.le_mul_of_pos_left (2 ^ drop) h0
        omega
    rw [this]; exact Nat.zero_le _

/-- the rung of the nearest word, before it is held down to infinity -/
def rung (f : Format) (neg : Bool) (mag : Nat) (place : Int) : Nat :=
  (max (place + mag.log2 - f.fractionBits) f.leastPlace - f.leastPlace).toNat * f.binade +
    Toward.even.cut neg (mag <<< (place - max (place + mag.log2 - f.fractionBits) f.leastPlace).toNat) (max (place + mag.log2 - f.fractionBits) f.leastPlace - place).toNat

theorem nearest_rung (f : Format) (neg : Bool) {mag : Nat} (place : Int) (h : mag ≠ 0) : f.nearest neg mag place = f.word neg (min (rung f neg mag place) f.infRung) := by
  unfold Format.nearest; rw [if_neg h]; rfl
theorem nearest_zero (f : Format) (neg : Bool) (place : Int) : f.nearest neg 0 place = f.word neg 0 := by
  unfold Format.nearest; rw [if_pos rfl]

/-- the number of a rung, in least places -/
def mv (f : Format) (r : Nat) : Nat := if r < f.binade then r else (f.binade + r % f.binade) * 2 ^ (r / f.binade - 1)

theorem pows (A L d : Nat) : A * 2 ^ L * 2 ^ d = A * 2 ^ (d + L) := by rw [Nat.mul_assoc, ← Nat.pow_add, Nat.add_comm]
theorem scale_le {mag p d L A : Nat} (h : mag * 2 ^ p ≤ A * 2 ^ L * 2 ^ d) : mag * 2 ^ (p - (d + L)) ≤ A * 2 ^ ((d + L) - p) := by
  rw [pows] at h
  generalize d + L = g at *
  by_cases hc : g ≤ p
  · obtain ⟨x, rfl⟩ := Nat.exists_eq_add_of_le hc
    rw [show g + x - g = x from by omega, show g - (g + x) = 0 from by omega]
    rw [Nat.pow_add, Nat.mul_left_comm, Nat.mul_comm A] at h
    rw [Nat.pow_zero, Nat.mul_one]
    exact Nat.le_of_mul_le_mul_left h (Nat.two_pow_pos _)
  · obtain ⟨x, rfl⟩ := Nat.exists_eq_add_of_le (Nat.le_of_not_le hc)
    rw [show p - (p + x) = 0 from by omega, show p + x - p = x from by omega, Nat.pow_zero, Nat.mul_one]
    rw [Nat.pow_add, Nat.mul_left_comm, Nat.mul_comm mag] at h
    exact Nat.le_of_mul_le_mul_left h (Nat.two_pow_pos _)
theorem le_scale {mag p d L A : Nat} (h : A * 2 ^ L * 2 ^ d ≤ mag * 2 ^ p) : A * 2 ^ ((d + L) - p) ≤ mag * 2 ^ (p - (d + L)) := by
  rw [pows] at h
  generalize d + L = g at *
  by_cases hc : g ≤ p
  · obtain ⟨x, rfl⟩ := Nat.exists_eq_add_of_le hc
    rw [show g + x - g = x from by omega, show g - (g + x) = 0 from by omega]
    rw [Nat.pow_add, Nat.mul_left_comm, Nat.mul_comm A] at h
    rw [Nat.pow_zero, Nat.mul_one]
    exact Nat.le_of_mul_le_mul_left h (Nat.two_pow_pos _)
  · obtain ⟨x, rfl⟩ := Nat.exists_eq_add_of_le (Nat.le_of_not_le hc)
    rw [show p - (p + x) = 0 from by omega, show p + x - p = x from by omega, Nat.pow_zero, Nat.mul_one]
    rw [Nat.pow_add, Nat.mul_left_comm, Nat.mul_comm mag] at h
    exact Nat.le_of_mul_le_mul_left h (Nat.two_pow_pos _)

/-- what is known of a rung: 'L' binades up, and how far in -/
structure Rung (f : Format) (neg : Bool) (mag : Nat) (place : Int) (p d L K : Nat) : Prop where
  eq : rung f neg mag place = L * f.binade + K
  up : ∀ A, mag * 2 ^ p ≤ A * 2 ^ L * 2 ^ d → K ≤ A
  down : ∀ A, A * 2 ^ L * 2 ^ d ≤ mag * 2 ^ p → A ≤ K
  top : mag * 2 ^ p < 2 * f.binade * 2 ^ L * 2 ^ d
  low : 0 < L → f.binade * 2 ^ L * 2 ^ d ≤ mag * 2 ^ p

theorem rung_facts (f : Format) (neg : Bool) {mag : Nat} {place : Int} (hm : mag ≠ 0) {p d : Nat} (hp : place = f.leastPlace + p - d) : ∃ L K, Rung f neg mag place p d L K := by
  obtain ⟨L, hL⟩ : ∃ L : Nat, max (place + mag.log2 - f.fractionBits) f.leastPlace = f.leastPlace + L := ⟨(max (place + mag.log2 - f.fractionBits) f.leastPlace - f.leastPlace).toNat, by omega⟩
  have e1 : (f.leastPlace + L - f.leastPlace).toNat = L := by omega
  have e2 : (place - (f.leastPlace + L)).toNat = p - (d + L) := by omega
  have e3 : ((f.leastPlace + L) - place).toNat = (d + L) - p := by omega
  have hge : p + mag.log2 ≤ L + d + f.fractionBits := by omega
  have heq : 0 < L → p + mag.log2 = L + d + f.fractionBits := by omega
  have hlt : mag < 2 ^ (mag.log2 + 1) := Nat.lt_log2_self
  have hle : 2 ^ mag.log2 ≤ mag := Nat.log2_self_le hm
  refine ⟨L, Toward.even.cut neg (mag <<< (place - max (place + mag.log2 - f.fractionBits) f.leastPlace).toNat) (max (place + mag.log2 - f.fractionBits) f.leastPlace - place).toNat, ?_, ?_, ?_, ?_, ?_⟩
  · unfold rung; rw [hL, e1]
  · intro A h
    rw [hL, e2, e3, Nat.shiftLeft_eq]
    exact cut_le (scale_le h)
  · intro A h
    rw [hL, e2, e3, Nat.shiftLeft_eq]
    exact le_cut (le_scale h)
  · unfold Format.binade
    calc mag * 2 ^ p < 2 ^ (mag.log2 + 1) * 2 ^ p := Nat.mul_lt_mul_of_pos_right hlt (Nat.two_pow_pos _)
      _ = 2 ^ (mag.log2 + 1 + p) := (Nat.pow_add _ _ _).symm
      _ ≤ 2 ^ (1 + f.fractionBits + L + d) := Nat.pow_le_pow_right (by omega) (by omega)
      _ = 2 * 2 ^ f.fractionBits * 2 ^ L * 2 ^ d := by rw [Nat.pow_add, Nat.pow_add, Nat.pow_add]
  · intro h0
    unfold Format.binade
    calc 2 ^ f.fractionBits * 2 ^ L * 2 ^ d = 2 ^ (f.fractionBits + L + d) := by rw [Nat.pow_add, Nat.pow_add]
      _ = 2 ^ mag.log2 * 2 ^ p := by rw [← Nat.pow_add]; congr 1; have := heq h0; omega
      _ ≤ mag * 2 ^ p := Nat.mul_le_mul_right _ hle

theorem rung_le (f : Format) (neg : Bool) {mag : Nat} {place : Int} (hm : mag ≠ 0) {p d r : Nat} (hp : place = f.leastPlace + p - d) (h : mag * 2 ^ p ≤ mv f r * 2 ^ d) : rung f neg mag place ≤ r := by
  obtain ⟨L, K, eq, up, down, top, low⟩ := rung_facts f neg hm hp
  rw [eq]
  have hb : 0 < f.binade := Nat.two_pow_pos _
  have hK : K ≤ 2 * f.binade := up _ (Nat.le_of_lt top)
  have hd : 0 < 2 ^ d := Nat.two_pow_pos _
  unfold mv at h
  by_cases hr : r < f.binade
  · rw [if_pos hr] at h
    rcases Nat.eq_zero_or_pos L with h0 | h0
    · subst h0
      have := up r (by rw [Nat.pow_zero, Nat.mul_one]; exact h)
      omega
    · have h2 := Nat.le_trans (low h0) h
      have h3 := Nat.le_of_mul_le_mul_right h2 hd
      have h4 := Nat.le_mul_of_pos_right f.binade (Nat.two_pow_pos L)
      omega
  · rw [if_neg hr] at h
    obtain ⟨q, hq⟩ : ∃ q, r / f.binade = q + 1 := ⟨r / f.binade - 1, by have := (Nat.one_le_div_iff hb).2 (Nat.le_of_not_lt hr); omega⟩
    have er := Nat.div_add_mod r f.binade
    rw [hq] at h er
    rw [Nat.add_sub_cancel] at h
    have hm2 := Nat.mod_lt r hb
    generalize r % f.binade = m at *
    rw [Nat.mul_add, Nat.mul_one] at er
    rcases Nat.lt_trichotomy q L with hc | hc | hc
    · have h2 := Nat.le_trans (low (by omega)) h
      have h3 := Nat.le_of_mul_le_mul_right h2 hd
      obtain ⟨x, rfl⟩ := Nat.exists_eq_add_of_lt hc
      rw [show q + x + 1 = (x + 1) + q from by omega, Nat.pow_add, ← Nat.mul_assoc] at h3
      have h4 := Nat.le_of_mul_le_mul_right h3 (Nat.two_pow_pos _)
      have h5 : f.binade * 2 ≤ f.binade * 2 ^ (x + 1) := Nat.mul_le_mul_left _ (by rw [Nat.pow_succ]; have := Nat.two_pow_pos x; omega)
      omega
    · subst hc
      have := up _ h
      rw [Nat.mul_comm] at er
      omega
    · obtain ⟨x, rfl⟩ := Nat.exists_eq_add_of_lt hc
      have : f.binade * (L + x + 1) = L * f.binade + x * f.binade + f.binade := by rw [Nat.mul_add, Nat.mul_add, Nat.mul_one, Nat.mul_comm f.binade L, Nat.mul_comm f.binade x]
      omega

theorem le_rung (f : Format) (neg : Bool) {mag : Nat} {place : Int} (hm : mag ≠ 0) {p d r : Nat} (hp : place = f.leastPlace + p - d) (h : mv f r * 2 ^ d ≤ mag * 2 ^ p) : r ≤ rung f neg mag place := by
  obtain ⟨L, K, eq, up, down, top, low⟩ := rung_facts f neg hm hp
  rw [eq]
  have hb : 0 < f.binade := Nat.two_pow_pos _
  have hd : 0 < 2 ^ d := Nat.two_pow_pos _
  have hK : 0 < L → f.binade ≤ K := fun h0 => down _ (low h0)
  unfold mv at h
  by_cases hr : r < f.binade
  · rw [if_pos hr] at h
    rcases Nat.eq_zero_or_pos L with h0 | h0
    · subst h0
      have := down r (by rw [Nat.pow_zero, Nat.mul_one]; exact h)
      omega
    · have := hK h0
      omega
  · rw [if_neg hr] at h
    obtain ⟨q, hq⟩ : ∃ q, r / f.binade = q + 1 := ⟨r / f.binade - 1, by have := (Nat.one_le_div_iff hb).2 (Nat.le_of_not_lt hr); omega⟩
    have er := Nat.div_add_mod r f.binade
    rw [hq] at h er
    rw [Nat.add_sub_cancel] at h
    have hm2 := Nat.mod_lt r hb
    generalize r % f.binade = m at *
    rw [Nat.mul_add, Nat.mul_one] at er
    rcases Nat.lt_trichotomy q L with hc | hc | hc
    · obtain ⟨x, rfl⟩ := Nat.exists_eq_add_of_lt hc
      have := hK (by omega)
      have : (q + x + 1) * f.binade = f.binade * q + x * f.binade + f.binade := by rw [Nat.add_mul, Nat.add_mul, Nat.one_mul, Nat.mul_comm q]
      omega
    · subst hc
      have := down _ h
      rw [Nat.mul_comm] at er
      omega
    · have h2 := Nat.lt_of_le_of_lt h top
      have h3 := Nat.lt_of_mul_lt_mul_right h2
      obtain ⟨x, rfl⟩ := Nat.exists_eq_add_of_lt hc
      rw [show L + x + 1 = (x + 1) + L from by omega, Nat.pow_add, ← Nat.mul_assoc] at h3
      have h4 := Nat.lt_of_mul_lt_mul_right h3
      have h5 : f.binade * 2 ≤ (f.binade + m) * 2 ^ (x + 1) := Nat.mul_le_mul (by omega) (by rw [Nat.pow_succ]; have := Nat.two_pow_pos x; omega)
      omega

end Go.Proofs.Ytbefoiikbbjjfaa.round

namespace Go.Proofs.Ytbefoiikbbjjfaa.values
set_option linter.unusedVariables false
open Go Ieee
open Go.Proofs.Ytbefoiikbbjjfaa.floats Go.Proofs.Ytbefoiikbbjjfaa.round

def sgn (f : Format) (x : Nat) : Bool := x / f.signWeight % 2 == 1
def rg (f : Format) (x : Nat) : Nat := x % f.signWeight
def FinW (f : Format) (x : Nat) : Prop := rg f x < f.infRung
/-- a sign laid on a number -/
def sg (neg : Bool) (n : Nat) : Int := if neg then -(n : Int) else n
/-- the value, in least places -/
def V (f : Format) (x : Nat) : Int := sg (sgn f x) (mv f (rg f x))

theorem rg_word (f : Format) (neg : Bool) {r : Nat} (h : r < f.signWeight) : rg f (f.word neg r) = r := by
  unfold rg Format.word
  cases neg
  · exact Nat.mod_eq_of_lt h
  · simp only [if_true]; rw [Nat.add_mod_left, Nat.mod_eq_of_lt h]
theorem sgn_word (f : Format) (neg : Bool) {r : Nat} (h : r < f.signWeight) : sgn f (f.word neg r) = neg := by
  have hp : 0 < f.signWeight := by omega
  unfold sgn Format.word
  cases neg
  · simp only [Bool.false_eq_true, if_false]; rw [Nat.div_eq_of_lt h]; rfl
  · simp only [if_true]; rw [Nat.add_div_left _ hp, Nat.div_eq_of_lt h]; rfl
theorem V_word (f : Format) (neg : Bool) {r : Nat} (h : r < f.signWeight) : V f (f.word neg r) = sg neg (mv f r) := by
  unfold V; rw [rg_word f neg h, sgn_word f neg h]

theorem mv_mono (f : Format) {a b : Nat} (h : a ≤ b) : mv f a ≤ mv f b := by
  have hb : 0 < f.binade := Nat.two_pow_pos _
  unfold mv
  by_cases h1 : b < f.binade
  · rw [if_pos h1, if_pos (by omega)]; exact h
  · rw [if_neg h1]
    by_cases h2 : a < f.binade
    · rw [if_pos h2]
      have := Nat.le_mul_of_pos_right (f.binade + b % f.binade) (Nat.two_pow_pos (b / f.binade - 1))
      omega
    · rw [if_neg h2]
      have ea := Nat.div_add_mod a f.binade
      have eb := Nat.div_add_mod b f.binade
      have la := Nat.mod_lt a hb
      have qa := (Nat.one_le_div_iff hb).2 (Nat.le_of_not_lt h2)
      have hq : a / f.binade ≤ b / f.binade := Nat.div_le_div_right h
      generalize a / f.binade = q at *
      generalize b / f.binade = s at *
      rcases Nat.lt_or_eq_of_le hq with hc | hc
      · obtain ⟨x, rfl⟩ := Nat.exists_eq_add_of_lt hc
        rw [show q + x + 1 - 1 = (x + 1) + (q - 1) from by omega, Nat.pow_add, ← Nat.mul_assoc]
        refine Nat.mul_le_mul_right _ ?_
        have h5 : f.binade * 2 ≤ (f.binade + b % f.binade) * 2 ^ (x + 1) := Nat.mul_le_mul (by omega) (by rw [Nat.pow_succ]; have := Nat.two_pow_pos x; omega)
        omega
      · subst hc
        refine Nat.mul_le_mul_right _ ?_
        omega

theorem mv_zero (f : Format) : mv f 0 = 0 := by
  unfold mv; rw [if_pos (show 0 < f.binade from Nat.two_pow_pos _)]

/-- A finite word, read. -/
theorem read_fin (f : Format) {x : Nat} (h : FinW f x) : ∃ m e : Nat, f.read x = .number (sgn f x) m (f.leastPlace + e) ∧ m * 2 ^ e = mv f (rg f x) := by
  unfold FinW rg at h
  unfold Format.read mv rg sgn
  dsimp only
  by_cases h1 : x % f.signWeight < f.binade
  · rw [if_pos h1, if_pos h1]
    exact ⟨x % f.signWeight, 0, by simp, by simp⟩
  · rw [if_neg h1, if_neg h1, if_pos h]
    exact ⟨_, _, rfl, rfl⟩

theorem not_nan (f : Format) {x : Nat} (h : FinW f x) : (f.read x).isNaN = false := by
  obtain ⟨m, e, hr, _⟩ := read_fin f h; rw [hr]; rfl
theorem fin_not_nan {k : FloatKind} {x : Nat} (h : FinW k.format x) : isNaN k x = false := not_nan _ h
theorem can_fin {k : FloatKind} {x : Nat} (h : FinW k.format x) : can k x = x := can_of_not (fin_not_nan h)

/-- r is a nearest word to num / 2 ^ d least places: it keeps every bound that the format has. -/
structure Rnd (f : Format) (num : Int) (d : Nat) (r : Nat) : Prop where
  fin : FinW f r
  le : ∀ c, FinW f c → num ≤ V f c * 2 ^ d → V f r ≤ V f c
  ge : ∀ c, FinW f c → V f c * 2 ^ d ≤ num → V f c ≤ V f r

theorem sg_mul (s : Bool) (n m : Nat) : sg s n * (m : Int) = sg s (n * m) := by
  cases s <;> simp [sg, Int.neg_mul]

theorem inf_lt_sw (f : Format) : f.infRung < f.signWeight := f.infRung_lt

/-- THE LAW OF ROUNDING. -/
theorem nearest_rnd (f : Format) (neg : Bool) (mag : Nat) (place : Int) {p d hi : Nat} (hp : place = f.leastPlace + p - d) (hhi : hi < f.infRung) (hb : mag * 2 ^ p ≤ mv f hi * 2 ^ d) :
    Rnd f (sg neg (mag * 2 ^ p)) d (f.nearest neg mag place) ∧ ∃ r, r ≤ hi ∧ f.nearest neg mag place = f.word neg r := by
  have hsw := inf_lt_sw f
  obtain ⟨r, hr, e, up, down⟩ : ∃ r, r ≤ hi ∧ f.nearest neg mag place = f.word neg r ∧ (∀ u, mag * 2 ^ p ≤ mv f u * 2 ^ d → mv f r ≤ mv f u) ∧ (∀ u, u < f.infRung → mv f u * 2 ^ d ≤ mag * 2 ^ p → mv f u ≤ mv f r) := by
    by_cases hm : mag = 0
    · subst hm
      refine ⟨0, Nat.zero_le _, nearest_zero _ _ _, fun u _ => by rw [mv_zero]; exact Nat.zero_le _, fun u _ hu => ?_⟩
      rw [Nat.zero_mul] at hu
      rw [mv_zero]
      have := Nat.le_mul_of_pos_right (mv f u) (Nat.two_pow_pos d)
      omega
    · have h1 := rung_le f neg hm hp hb
      refine ⟨rung f neg mag place, h1, ?_, fun u hu => mv_mono f (rung_le f neg hm hp hu), fun u _ hu => mv_mono f (le_rung f neg hm hp hu)⟩
      rw [nearest_rung f neg place hm, Nat.min_eq_left (by omega)]
  refine ⟨⟨?_, ?_, ?_⟩, r, hr, e⟩
  · unfold FinW; rw [e, rg_word f neg (by omega)]; omega
  · intro c hc h
    have hcs : (2 : Int) ^ d = ((2 ^ d : Nat) : Int) := by simp
    rw [e, V_word f neg (by omega)]
    unfold V at h ⊢
    rw [hcs, sg_mul] at h
    have hd := Nat.two_pow_pos d
    generalize sgn f c = s at h ⊢
    cases neg <;> cases s <;> simp only [sg, if_true, Bool.false_eq_true, if_false] at h ⊢
    · have := up (rg f c) (by omega)
      omega
    · have h0 : mag * 2 ^ p = 0 := by omega
      have := up 0 (by rw [h0]; exact Nat.zero_le _)
      rw [mv_zero] at this
      have h1 : mv f (rg f c) * 2 ^ d = 0 := by omega
      have h2 := Nat.le_mul_of_pos_right (mv f (rg f c)) hd
      omega
    · omega
    · have := down (rg f c) hc (by omega); omega
  · intro c hc h
    have hcs : (2 : Int) ^ d = ((2 ^ d : Nat) : Int) := by simp
    rw [e, V_word f neg (by omega)]
    unfold V at h ⊢
    rw [hcs, sg_mul] at h
    have hd := Nat.two_pow_pos d
    generalize sgn f c = s at h ⊢
    cases neg <;> cases s <;> simp only [sg, if_true, Bool.false_eq_true, if_false] at h ⊢
    · have := down (rg f c) hc (by omega); omega
    · omega
    · have h0 : mag * 2 ^ p = 0 := by omega
      have := up 0 (by rw [h0]; exact Nat.zero_le _)
      rw [mv_zero] at this
      have h1 : mv f (rg f c) * 2 ^ d = 0 := by omega
      have h2 := Nat.le_mul_of_pos_right (mv f (rg f c)) hd
      omega
    · have := up (rg f c) (by omega); omega

/-- A finite word, read and written again. -/
theorem word_parts (f : Format) {x : Nat} (h : x < 2 * f.signWeight) : f.word (sgn f x) (rg f x) = x := by
  have e := Nat.div_add_mod x f.signWeight
  unfold Format.word sgn rg
  have hp : 0 < f.signWeight := Nat.two_pow_pos _
  have hq : x / f.signWeight < 2 := by rw [Nat.div_lt_iff_lt_mul hp]; exact h
  rcases Nat.lt_or_ge (x / f.signWeight) 1 with h1 | h1
  · have h0 : x / f.signWeight = 0 := Nat.lt_one_iff.1 h1
    rw [h0] at e ⊢
    simp at e ⊢; exact e
  · have h0 : x / f.signWeight = 1 := Nat.le_antisymm (Nat.le_of_lt_succ hq) h1
    rw [h0] at e ⊢
    simp at e ⊢; exact e

/-! ## the operations -/
theorem signed_sg (s : Bool) (m e : Nat) : signed s m e = sg s (m * 2 ^ e) := by
  unfold signed sg; rw [Nat.shiftLeft_eq]
theorem sg_natAbs (t : Int) (s : Bool) (h : t = 0 ∨ s = decide (t < 0)) (n : Nat) : sg s (t.natAbs * n) = t * n := by
  rcases h with h | h
  · subst h; cases s <;> simp [sg]
  · subst h
    by_cases ht : t < 0
    · simp only [ht, decide_true, sg, if_true]
      rw [Int.natCast_mul, ← Int.neg_mul, Int.ofNat_natAbs_of_nonpos (by omega), Int.neg_neg]
    · simp only [ht, decide_false, sg, Bool.false_eq_true, if_false]
      rw [Int.natCast_mul, Int.natAbs_of_nonneg (by omega)]
theorem sg_pow (s : Bool) (m a b : Nat) : sg s (m * 2 ^ (a + b)) = sg s (m * 2 ^ a) * 2 ^ b := by
  rw [show (2 : Int) ^ b = ((2 ^ b : Nat) : Int) from by simp, sg_mul, Nat.pow_add, Nat.mul_assoc]

theorem V_read {f : Format} {x m e : Nat} (h2 : m * 2 ^ e = mv f (rg f x)) : V f x = sg (sgn f x) (m * 2 ^ e) := by unfold V; rw [h2]

theorem sum_number (f : Format) (s t : Bool) (m n i j : Nat) : ∃ (neg : Bool) (mag b : Nat), (Datum.number s m (f.leastPlace + i)).sum (.number t n (f.leastPlace + j)) = some (.number neg mag (f.leastPlace + b)) ∧ sg neg (mag * 2 ^ b) = sg s (m * 2 ^ i) + sg t (n * 2 ^ j) := by
  unfold Datum.sum
  dsimp only
  rcases Nat.le_total i j with h | h
  · obtain ⟨x, rfl⟩ := Nat.exists_eq_add_of_le h
    have e1 : min (f.leastPlace + i : Int) (f.leastPlace + (i + x : Nat)) = f.leastPlace + i := by omega
    have e2 : (f.leastPlace + i - (f.leastPlace + i) : Int).toNat = 0 := by omega
    have e3 : (f.leastPlace + (i + x : Nat) - (f.leastPlace + i) : Int).toNat = x := by omega
    rw [e1, e2, e3, signed_sg, signed_sg]
    refine ⟨_, _, i, rfl, ?_⟩
    rw [sg_natAbs]
    · rw [Int.add_mul, show ((2 ^ i : Nat) : Int) = 2 ^ i from by simp, Nat.add_comm i x, ← sg_pow, ← sg_pow, Nat.zero_add]
    · by_cases h0 : sg s (m * 2 ^ 0) + sg t (n * 2 ^ x) = 0
      · left; exact h0
      · right; rw [if_neg h0]
  · obtain ⟨x, rfl⟩ := Nat.exists_eq_add_of_le h
    have e1 : min (f.leastPlace + (j + x : Nat) : Int) (f.leastPlace + j) = f.leastPlace + j := by omega
    have e2 : (f.leastPlace + j - (f.leastPlace + j) : Int).toNat = 0 := by omega
    have e3 : (f.leastPlace + (j + x : Nat) - (f.leastPlace + j) : Int).toNat = x := by omega
    rw [e1, e2, e3, signed_sg, signed_sg]
    refine ⟨_, _, j, rfl, ?_⟩
    rw [sg_natAbs]
    · rw [Int.add_mul, show ((2 ^ j : Nat) : Int) = 2 ^ j from by simp, Nat.add_comm j x, ← sg_pow, ← sg_pow, Nat.zero_add]
    · by_cases h0 : sg s (m * 2 ^ x) + sg t (n * 2 ^ 0) = 0
      · left; exact h0
      · right; rw [if_neg h0]

theorem sg_abs (s : Bool) (n : Nat) : (sg s n).natAbs = n := by cases s <;> simp [sg]

/-- A SUM. -/
theorem add_rnd (f : Format) {x y hi : Nat} (hx : FinW f x) (hy : FinW f y) (hhi : hi < f.infRung) (hb : (V f x + V f y).natAbs ≤ mv f hi) :
    ∃ r, f.add x y = some r ∧ Rnd f (V f x + V f y) 0 r := by
  obtain ⟨m, i, ex, vx⟩ := read_fin f hx
  obtain ⟨n, j, ey, vy⟩ := read_fin f hy
  obtain ⟨neg, mag, b, es, vs⟩ := sum_number f (sgn f x) (sgn f y) m n i j
  have hV : V f x + V f y = sg neg (mag * 2 ^ b) := by rw [vs, V_read vx, V_read vy]
  refine ⟨f.nearest neg mag (f.leastPlace + b), ?_, ?_⟩
  · unfold Format.add; rw [ex, ey, es]; rfl
  · rw [hV] at hb ⊢
    rw [sg_abs] at hb
    exact (nearest_rnd f neg mag _ (p := b) (d := 0) (by simp) hhi (by simpa using hb)).1

theorem sg_not (s : Bool) (n : Nat) : sg (!s) n = - sg s n := by cases s <;> simp [sg]
/-- A DIFFERENCE. -/
theorem sub_rnd (f : Format) {x y hi : Nat} (hx : FinW f x) (hy : FinW f y) (hhi : hi < f.infRung) (hb : (V f x - V f y).natAbs ≤ mv f hi) :
    ∃ r, f.sub x y = some r ∧ Rnd f (V f x - V f y) 0 r := by
  obtain ⟨m, i, ex, vx⟩ := read_fin f hx
  obtain ⟨n, j, ey, vy⟩ := read_fin f hy
  obtain ⟨neg, mag, b, es, vs⟩ := sum_number f (sgn f x) (!sgn f y) m n i j
  have hV : V f x - V f y = sg neg (mag * 2 ^ b) := by rw [vs, V_read vx, V_read vy, sg_not]; rfl
  refine ⟨f.nearest neg mag (f.leastPlace + b), ?_, ?_⟩
  · unfold Format.sub; rw [ex, ey]; simp only [Datum.opposite]; rw [es]; rfl
  · rw [hV] at hb ⊢
    rw [sg_abs] at hb
    exact (nearest_rnd f neg mag _ (p := b) (d := 0) (by simp) hhi (by simpa using hb)).1

theorem sg_xor (s t : Bool) (m n : Nat) : sg (s ^^ t) (m * n) = sg s m * sg t n := by
  cases s <;> cases t <;> simp [sg, Int.neg_mul, Int.mul_neg]
/-- A PRODUCT: in units of the least place, times the least place. -/
theorem mul_rnd (f : Format) {x y hi D : Nat} (hD : f.leastPlace = -(D : Int)) (hx : FinW f x) (hy : FinW f y) (hhi : hi < f.infRung) (hb : (V f x * V f y).natAbs ≤ mv f hi * 2 ^ D) :
    ∃ r, f.mul x y = some r ∧ Rnd f (V f x * V f y) D r ∧ sgn f r = (sgn f x ^^ sgn f y) := by
  obtain ⟨m, i, ex, vx⟩ := read_fin f hx
  obtain ⟨n, j, ey, vy⟩ := read_fin f hy
  have hV : V f x * V f y = sg (sgn f x ^^ sgn f y) ((m * n) * 2 ^ (i + j)) := by
    rw [V_read vx, V_read vy, ← sg_xor, Nat.pow_add]; congr 1; rw [Nat.mul_assoc, Nat.mul_assoc, Nat.mul_left_comm n]
  rw [hV] at hb ⊢
  rw [sg_abs] at hb
  have hh := nearest_rnd f (sgn f x ^^ sgn f y) (m * n) (f.leastPlace + i + (f.leastPlace + j)) (p := i + j) (d := D) (by omega) hhi hb
  refine ⟨f.nearest (sgn f x ^^ sgn f y) (m * n) (f.leastPlace + i + (f.leastPlace + j)), ?_, hh.1, ?_⟩
  · unfold Format.mul; rw [ex, ey]; rfl
  · obtain ⟨r, hr, e⟩ := hh.2
    have := inf_lt_sw f
    rw [e, sgn_word f _ (by omega)]

end Go.Proofs.Ytbefoiikbbjjfaa.values

namespace Go.Proofs.Ytbefoiikbbjjfaa.conv
set_option linter.unusedVariables false
open Go Ieee
open Go.Proofs.Ytbefoiikbbjjfaa.floats Go.Proofs.Ytbefoiikbbjjfaa.round Go.Proofs.Ytbefoiikbbjjfaa.values

theorem fmt32 : FloatKind.f32.format = single := rfl
theorem fmt64 : FloatKind.f64.format = double := rfl
theorem lp32 : single.leastPlace = -149 := by decide +kernel
theorem lp64 : double.leastPlace = -1074 := by decide +kernel

/-! ## a conversion, in whatever world -/
def convQ (src : FloatKind) (b : Nat) (dst : FloatKind) : Question :=
  match src.decode b with
  | .nan _ _ => .nanConv dst b
  | _ => .floatToFloat b
def cval (src : FloatKind) (w : World) (b : Nat) (dst : FloatKind) : Nat :=
  match floatToFloatBits src b dst with
  | some r => r
  | none => (convQ src b dst).cut (w.tape w.drawn (convQ src b dst))
def ccnt (src : FloatKind) (b : Nat) (dst : FloatKind) : Nat := if (floatToFloatBits src b dst).isSome then 0 else 1
def Fits (src : FloatKind) (b : Nat) (dst : FloatKind) : Prop := isNaN src b = true ∨ (floatToFloatBits src b dst).isSome = true
/-- the same with one not-a-number -/
def cop (src : FloatKind) (b : Nat) (dst : FloatKind) : Nat :=
  match floatToFloatBits src b dst with
  | some r => can dst r
  | none => nan dst

theorem run_convff {P : Program} (w : World) (s d : TypeId) (src dst : FloatKind) (b : Nat) (hs : (P.underlying s).isSome = true) (hd : P.underlying d = some (.float dst)) :
    (convert s d (.float src b)).run P w = .ok (.float dst (cval src w b dst)) (w.drewN (ccnt src b dst)) := by
  unfold cval ccnt
  cases hb : floatToFloatBits src b dst with
  | some r => exact run_convert_float_float w s d src dst b r hs hd hb
  | none =>
    obtain ⟨u, hs'⟩ := Option.isSome_iff_exists.1 hs
    have hne : src ≠ dst := by intro e; subst e; simp [floatToFloatBits] at hb
    unfold floatToFloatBits at hb
    rw [if_neg hne] at hb
    unfold convQ
    cases hdec : src.decode b with
    | nan sg fr =>
      cases u <;> simp [convert, run_underlying hs', run_underlying hd, Conv.floatToFloat, hne, hdec, Question.forced, World.drewN]
    | infinity sg => rw [hdec] at hb; simp at hb
    | number sg m e =>
      rw [hdec] at hb
      simp only at hb
      split at hb
      · rename_i ho
        cases u <;> simp [convert, run_underlying hs', run_underlying hd, Conv.floatToFloat, hne, hdec, ho, Question.forced, World.drewN]
      · cases hb

theorem can_cval {src : FloatKind} {w : World} {b : Nat} {dst : FloatKind} (h : Fits src b dst) (hne : src ≠ dst) : can dst (cval src w b dst) = cop src b dst := by
  unfold cval cop
  cases hb : floatToFloatBits src b dst with
  | some r => rfl
  | none =>
    have hn : isNaN src b = true := by
      rcases h with h | h
      · exact h
      · rw [hb] at h; cases h
    unfold convQ
    unfold isNaN at hn
    revert hn
    cases src.decode b <;> simp [Datum.isNaN]
    simp [can, nanConv_nan]
theorem cval_self (k : FloatKind) (w : World) (b : Nat) : cval k w b k = b := by simp [cval, floatToFloatBits]
theorem ccnt_self (k : FloatKind) (b : Nat) : ccnt k b k = 0 := by simp [ccnt, floatToFloatBits]

theorem cop_can {src : FloatKind} {b : Nat} {dst : FloatKind} (hne : src ≠ dst) : cop src (can src b) dst = cop src b dst := by
  by_cases h : isNaN src b = true
  · have e : ∀ c, isNaN src c = true → floatToFloatBits src c dst = none := by
      intro c hc
      unfold floatToFloatBits
      rw [if_neg hne]
      unfold isNaN at hc
      revert hc
      cases src.decode c <;> simp [Datum.isNaN]
    unfold cop; rw [e b h, e (can src b) (by rw [isNaN_can]; exact h)]
  · rw [can_of_not (by simpa using h)]

/-! ## comparisons -/
theorem compare_scale (a b : Int) (n : Nat) : compare (a * 2 ^ n) (b * 2 ^ n) = compare a b := by
  have hp : (0 : Int) < 2 ^ n := by have := Nat.two_pow_pos n; exact_mod_cast this
  rcases Int.lt_trichotomy a b with h | h | h
  · rw [Int.compare_eq_lt.2 h, Int.compare_eq_lt.2 (Int.mul_lt_mul_of_pos_right h hp)]
  · subst h; simp
  · rw [Int.compare_eq_gt.2 h, Int.compare_eq_gt.2 (Int.mul_lt_mul_of_pos_right h hp)]

theorem order_fin (f : Format) {x y : Nat} (hx : FinW f x) (hy : FinW f y) : f.order x y = some (compare (V f x) (V f y)) := by
  obtain ⟨m, i, ex, vx⟩ := read_fin f hx
  obtain ⟨n, j, ey, vy⟩ := read_fin f hy
  unfold Format.order
  rw [ex, ey, V_read vx, V_read vy]
  unfold Datum.order
  dsimp only
  rcases Nat.le_total i j with h | h
  · obtain ⟨x, rfl⟩ := Nat.exists_eq_add_of_le h
    rw [show min (f.leastPlace + i : Int) (f.leastPlace + (i + x : Nat)) = f.leastPlace + i from by omega,
      show (f.leastPlace + i - (f.leastPlace + i) : Int).toNat = 0 from by omega,
      show (f.leastPlace + (i + x : Nat) - (f.leastPlace + i) : Int).toNat = x from by omega, signed_sg, signed_sg]
    rw [Nat.add_comm i x, sg_pow, show sg (sgn f _) (m * 2 ^ i) = sg (sgn f _) (m * 2 ^ (0 + i)) from by rw [Nat.zero_add], sg_pow, compare_scale]
  · obtain ⟨x, rfl⟩ := Nat.exists_eq_add_of_le h
    rw [show min (f.leastPlace + (j + x : Nat) : Int) (f.leastPlace + j) = f.leastPlace + j from by omega,
      show (f.leastPlace + j - (f.leastPlace + j) : Int).toNat = 0 from by omega,
      show (f.leastPlace + (j + x : Nat) - (f.leastPlace + j) : Int).toNat = x from by omega, signed_sg, signed_sg]
    rw [Nat.add_comm j x, sg_pow, show sg (sgn f _) (n * 2 ^ j) = sg (sgn f _) (n * 2 ^ (0 + j)) from by rw [Nat.zero_add], sg_pow, compare_scale]

/-! ## between the formats -/
theorem inf_word (f : Format) (neg : Bool) {r : Nat} (h : r < f.infRung) : (f.read (f.word neg r)).isInfinity = false := by
  have hsw := inf_lt_sw f
  obtain ⟨m, e, hr, _⟩ := read_fin f (x := f.word neg r) (by unfold FinW; rw [rg_word f neg (by omega)]; exact h)
  rw [hr]; rfl

/-- NARROWING, where it fits. -/
theorem narrow_rnd {x hi : Nat} (hx : FinW double x) (hhi : hi < single.infRung) (hb : (V double x).natAbs ≤ mv single hi * 2 ^ 925) :
    ∃ r, floatToFloatBits .f64 x .f32 = some r ∧ Rnd single (V double x) 925 r := by
  obtain ⟨m, e, ex, vx⟩ := read_fin double hx
  rw [V_read vx] at hb ⊢
  rw [sg_abs] at hb
  have hh := nearest_rnd single (sgn double x) m (double.leastPlace + e) (p := e) (d := 925) (by rw [lp32, lp64]; omega) hhi hb
  refine ⟨single.nearest (sgn double x) m (double.leastPlace + e), ?_, hh.1⟩
  obtain ⟨r, hr, er⟩ := hh.2
  unfold floatToFloatBits
  rw [if_neg (by decide)]
  show (match double.read x with | .nan _ _ => none | .infinity s => some (FloatKind.f32.encode (.infinity s)) | .number s m e => if (FloatKind.f32.decode (FloatKind.f32.encode (.number s m e))).isInfinity then none else some (FloatKind.f32.encode (.number s m e))) = _
  rw [ex]
  dsimp only
  have e1 : FloatKind.f32.encode (.number (sgn double x) m (double.leastPlace + e)) = single.nearest (sgn double x) m (double.leastPlace + e) := rfl
  have e2 : (FloatKind.f32.decode (single.nearest (sgn double x) m (double.leastPlace + e))).isInfinity = false := by
    rw [er]; exact inf_word single _ (by omega)
  rw [e1, e2]; rfl

theorem mv32_lt {r : Nat} (h : r < single.infRung) : mv single r * 2 ^ 925 ≤ mv double 9218868437227405311 := by
  have h1 := mv_mono single (show r ≤ 2139095039 from by rw [inf32] at h; omega)
  have h2 : mv single 2139095039 * 2 ^ 925 ≤ mv double 9218868437227405311 := by decide +kernel
  exact Nat.le_trans (Nat.mul_le_mul_right _ h1) h2

/-- WIDENING: always. -/
theorem widen_rnd {x : Nat} (hx : FinW single x) : ∃ r, floatToFloatBits .f32 x .f64 = some r ∧ Rnd double (V single x * 2 ^ 925) 0 r := by
  obtain ⟨m, e, ex, vx⟩ := read_fin single hx
  have hb : m * 2 ^ (e + 925) ≤ mv double 9218868437227405311 * 2 ^ 0 := by
    rw [Nat.pow_add, ← Nat.mul_assoc, vx, Nat.pow_zero, Nat.mul_one]; exact mv32_lt hx
  have hh := nearest_rnd double (sgn single x) m (single.leastPlace + e) (p := e + 925) (d := 0) (by rw [lp32, lp64]; omega) (hi := 9218868437227405311) (by rw [inf64]; decide) hb
  refine ⟨double.nearest (sgn single x) m (single.leastPlace + e), ?_, ?_⟩
  · obtain ⟨r, hr, er⟩ := hh.2
    unfold floatToFloatBits
    rw [if_neg (by decide)]
    show (match single.read x with | .nan _ _ => none | .infinity s => some (FloatKind.f64.encode (.infinity s)) | .number s m e => if (FloatKind.f64.decode (FloatKind.f64.encode (.number s m e))).isInfinity then none else some (FloatKind.f64.encode (.number s m e))) = _
    rw [ex]
    dsimp only
    have e1 : FloatKind.f64.encode (.number (sgn single x) m (single.leastPlace + e)) = double.nearest (sgn single x) m (single.leastPlace + e) := rfl
    have e2 : (FloatKind.f64.decode (double.nearest (sgn single x) m (single.leastPlace + e))).isInfinity = false := by
      rw [er]; exact inf_word double _ (by rw [inf64]; omega)
    rw [e1, e2]; rfl
  · rw [V_read vx, ← sg_pow]; exact hh.1

/-! ## three kinds of words -/
theorem kinds (f : Format) (hb : f.binade ≤ f.infRung) (x : Nat) : FinW f x ∨ (∃ s, f.read x = .infinity s ∧ rg f x = f.infRung ∧ s = sgn f x) ∨ (f.read x).isNaN = true := by
  by_cases h : FinW f x
  · exact .inl h
  · right
    unfold FinW rg at h
    by_cases h1 : x % f.signWeight = f.infRung
    · left
      refine ⟨sgn f x, ?_, h1, rfl⟩
      unfold Format.read sgn
      dsimp only
      rw [if_neg (by omega), if_neg h, if_pos h1]
    · right
      unfold Format.read
      dsimp only
      rw [if_neg (by omega), if_neg h, if_neg h1]
      rfl
theorem kinds32 (x : Nat) : FinW single x ∨ (∃ s, single.read x = .infinity s ∧ rg single x = single.infRung ∧ s = sgn single x) ∨ isNaN .f32 x = true := kinds single (by rw [bi32, inf32]; decide) x
theorem kinds64 (x : Nat) : FinW double x ∨ (∃ s, double.read x = .infinity s ∧ rg double x = double.infRung ∧ s = sgn double x) ∨ isNaN .f64 x = true := kinds double (by rw [bi64, inf64]; decide) x

theorem wide_fits (x : Nat) : Fits .f32 x .f64 := by
  rcases kinds32 x with h | ⟨s, h, _⟩ | h
  · obtain ⟨r, hr, _⟩ := widen_rnd h
    right; rw [hr]; rfl
  · right
    unfold floatToFloatBits
    rw [if_neg (by decide)]
    show (match single.read x with | .nan _ _ => none | .infinity s => some (FloatKind.f64.encode (.infinity s)) | .number s m e => if (FloatKind.f64.decode (FloatKind.f64.encode (.number s m e))).isInfinity then none else some (FloatKind.f64.encode (.number s m e))).isSome = true
    rw [h]; rfl
  · left; exact h

end Go.Proofs.Ytbefoiikbbjjfaa.conv
