/- The power of numbers in sixteenths is exact, in parts of 2^8, and so is that of a list of them. -/
import Derived.Test.YtabbfpjngbiohaaRows
import Derived.Test.YtabbfpjngbiohaaSlc
import Derived.Test.YtabbfpjngbiohaaR8
import Derived.Test.YtabbfpjngbiohaaSrc
import Derived.Test.YtabbfpjngbiohaaFloats
import Derived.Test.YtabbfpjngbiohaaRound
import Derived.Test.YtabbfpjngbiohaaValues
import Derived.Test.YtabbfpjngbiohaaConv
import Derived.Test.YtabbfpjngbiohaaFWalk
import Derived.Test.YtabbfpjngbiohaaFinWalk
import Derived.Test.YtabbfpjngbiohaaFloat2
import Derived.Test.YtabbfpjngbiohaaFloat3
import Derived.Test.YtabbfpjngbiohaaPhase
import Derived.Test.YtabbfpjngbiohaaSine
import Derived.Test.YtabbfpjngbiohaaPhasor
import Derived.Test.YtabbfpjngbiohaaListC
import Derived.Test.YtabbfpjngbiohaaSteerNum
import Derived.Test.YtabbfpjngbiohaaSineIn
import Derived.Test.YtabbfpjngbiohaaPolyNum
import Derived.Test.YtabbfpjngbiohaaPolyW
import Derived.Test.YtabbfpjngbiohaaPoly1
import Derived.Test.YtabbfpjngbiohaaGPoly
import Derived.Test.YtabbfpjngbiohaaGNum
import Derived.Test.YtabbfpjngbiohaaSrcW
import Derived.Test.YtabbfpjngbiohaaRq
import Derived.Test.YtabbfpjngbiohaaRoot
import Derived.Test.YtabbfpjngbiohaaPowW
import Derived.Test.YtabbfpjngbiohaaFine
import Derived.WalkKit
import Derived.ProofKit
import Derived.OpenShut
import Derived.ShutString
import Derived.ChangeOld
import Derived.Below
import Derived.Lib.Hide
import Derived.BigQuiet
import Derived.Deep.QuietTactic
import Derived.WalkLawsBesides
import Derived.Outline
import Derived.Deep.QuietTactic
import Derived.BigQuiet
import Derived.Deep.LoopGhost
import Derived.Laws.ComplexArith
namespace Go.Proofs.Ytabbfpjngbiohaa.fineN
open Go.ChangeShapes Go.WideShapes Go.ChangeAt Go.RowKit
open Go.ChangeMaps (open_string shut_string)
set_option linter.unusedVariables false
open Go Ieee Go.RowKit
open Go.Proofs.Ytabbfpjngbiohaa.slc Go.Proofs.Ytabbfpjngbiohaa.floats Go.Proofs.Ytabbfpjngbiohaa.round Go.Proofs.Ytabbfpjngbiohaa.values Go.Proofs.Ytabbfpjngbiohaa.conv Go.Proofs.Ytabbfpjngbiohaa.fWalk Go.Proofs.Ytabbfpjngbiohaa.float2 Go.Proofs.Ytabbfpjngbiohaa.float3 Go.Proofs.Ytabbfpjngbiohaa.phase Go.Proofs.Ytabbfpjngbiohaa.sine Go.Proofs.Ytabbfpjngbiohaa.phasor Go.Proofs.Ytabbfpjngbiohaa.listC Go.Proofs.Ytabbfpjngbiohaa.sineIn Go.Proofs.Ytabbfpjngbiohaa.polyNum Go.Proofs.Ytabbfpjngbiohaa.polyW Go.Proofs.Ytabbfpjngbiohaa.poly1 Go.Proofs.Ytabbfpjngbiohaa.gPoly Go.Proofs.Ytabbfpjngbiohaa.gNum Go.Proofs.Ytabbfpjngbiohaa.rq Go.Proofs.Ytabbfpjngbiohaa.powW Go.Proofs.Ytabbfpjngbiohaa.fine

/-- x is finite, with the value k in parts of 2^(D64 - d). -/
def Sd (d x : Nat) (k : Int) : Prop := FinW double x ∧ V double x = k * 2 ^ d
theorem s925 (k : Int) : k * 2 ^ 145 * 2 ^ 925 = k * 2 ^ 1070 := by
  rw [Int.mul_assoc, ← Int.pow_add]
theorem wide_16 {x : Nat} {k : Int} (h : S16 x k) (hk : k.natAbs ≤ 2 ^ 24) : floatToFloatBits .f32 x .f64 = some (wd x) ∧ Sd 1070 (wd x) k := by
  obtain ⟨r, hr, hrr⟩ := widen_rnd h.1
  have e1 : wd x = r := by unfold wd; rw [hr]; rfl
  obtain ⟨c, c1, c2⟩ := grid64 1070 (by omega) (by omega) k (Nat.le_trans hk (by decide))
  have e2 := rnd_exact hrr c1 (by rw [c2, h.2, Int.pow_zero, Int.mul_one, s925])
  rw [e1]
  exact ⟨hr, hrr.fin, by rw [e2, c2]⟩
theorem s1070 (a b : Int) : a * 2 ^ 1070 * (b * 2 ^ 1070) = a * b * 2 ^ 1066 * 2 ^ D64 := by
  rw [mm4, Int.mul_assoc (a * b), Int.mul_assoc (a * b), ← Int.pow_add, ← Int.pow_add, show 1070 + 1070 = 1066 + D64 by rw [D64_is]]
theorem pw_le (a b c d : Nat) (h : a + b ≤ c + d) : 2 ^ a * 2 ^ b ≤ 2 ^ c * 2 ^ d := by
  rw [← Nat.pow_add, ← Nat.pow_add]
  exact Nat.pow_le_pow_right (by omega) h
theorem d66 : 2 ^ 50 * 2 ^ 1066 ≤ mv double (pw (52 + D64)) := by
  rw [mv52]
  exact pw_le 50 1066 52 D64 (by rw [D64_is]; omega)
theorem mul_16 {x y : Nat} {a b : Int} (hx : Sd 1070 x a) (hy : Sd 1070 y b) (h : (a * b).natAbs ≤ 2 ^ 50) : floatBits .mul .f64 x y = some (bv .mul x y) ∧ Sd 1066 (bv .mul x y) (a * b) := by
  have hv : V double x * V double y = a * b * 2 ^ 1066 * 2 ^ D64 := by
    rw [hx.2, hy.2]; exact s1070 _ _
  obtain ⟨r, hr, hrr, _⟩ := mul_rnd double lpD hx.1 hy.1 pw52 (by
    rw [hv, k_abs, k_abs]
    exact Nat.mul_le_mul_right _ (Nat.le_trans (Nat.mul_le_mul_right _ h) d66))
  have h' : floatBits .mul .f64 x y = some r := hr
  obtain ⟨e1, e2⟩ := bv_some h'
  obtain ⟨c, c1, c2⟩ := grid64 1066 (by omega) (by omega) _ (Nat.le_trans h (by decide))
  have e3 := rnd_exact hrr c1 (by rw [c2, hv])
  rw [e2]
  exact ⟨by rw [← e2]; exact e1, hrr.fin, by rw [e3, c2]⟩
theorem add_256 {x y : Nat} {a b : Int} (hx : Sd 1066 x a) (hy : Sd 1066 y b) (h : (a + b).natAbs ≤ 2 ^ 50) : floatBits .add .f64 x y = some (bv .add x y) ∧ Sd 1066 (bv .add x y) (a + b) := by
  have hv : V double x + V double y = (a + b) * 2 ^ 1066 := by rw [hx.2, hy.2, Int.add_mul]
  obtain ⟨r, hr, hrr⟩ := add_rnd double hx.1 hy.1 pw52 (by
    rw [hv, k_abs]
    exact Nat.le_trans (Nat.mul_le_mul_right _ h) d66)
  have h' : floatBits .add .f64 x y = some r := hr
  obtain ⟨e1, e2⟩ := bv_some h'
  obtain ⟨c, c1, c2⟩ := grid64 1066 (by omega) (by omega) _ (Nat.le_trans h (by decide))
  have e3 := rnd_exact hrr c1 (by rw [c2, hv, Int.pow_zero, Int.mul_one])
  rw [e2]
  exact ⟨by rw [← e2]; exact e1, hrr.fin, by rw [e3, c2]⟩
theorem Sd.zero (d : Nat) : Sd d 0 0 := ⟨F_zero, by rw [V_zero, Int.zero_mul]⟩
theorem Sd.r {x : Nat} {k : Int} (h : Sd 1066 x k) : r64 x = (k : Rat) / 256 := by
  unfold r64
  rw [h.2, cast_pow, show two D64 = two 8 * two 1066 from by rw [← two_add]; rfl, two_num 8 256 rfl]
  have := two_pos 1066
  generalize two 1066 = P at *
  grind
/-- The sum of the squares of a number's parts. -/
def sq (g : G) : Int := g.1 * g.1 + g.2 * g.2
theorem sq_le {g : G} (h : InG g) : 0 ≤ sq g ∧ sq g ≤ 2048 := by
  obtain ⟨⟨a, b⟩, c, d⟩ := h
  unfold sq
  have l : ∀ x : Int, -32 ≤ x → x ≤ 32 → 0 ≤ x * x ∧ x * x ≤ 1024 := by
    intro x h1 h2
    have h3 : 0 ≤ (x + 32) * (32 - x) := Int.mul_nonneg (by omega) (by omega)
    have h4 : (x + 32) * (32 - x) = 1024 - x * x := by grind
    have h5 : 0 ≤ x * x := by
      rcases Int.le_total 0 x with q | q
      · exact Int.mul_nonneg q q
      · exact Int.mul_nonneg_of_nonpos_of_nonpos q q
    omega
  have := l _ a b
  have := l _ c d
  omega
theorem pow_16 {g : G} (h : InG g) : PowOk (fW g) ∧ Sd 1066 (pwW (fW g)) (sq g) := by
  obtain ⟨x1, x2⟩ := fW_ok h
  have hs := sq_le h
  have hF := h
  unfold InG at hF
  unfold sq at hs
  have p1 : 0 ≤ g.1 * g.1 := by
    rcases Int.le_total 0 g.1 with q | q
    · exact Int.mul_nonneg q q
    · exact Int.mul_nonneg_of_nonpos_of_nonpos q q
  have p2 : 0 ≤ g.2 * g.2 := by
    rcases Int.le_total 0 g.2 with q | q
    · exact Int.mul_nonneg q q
    · exact Int.mul_nonneg_of_nonpos_of_nonpos q q
  obtain ⟨e1, w1⟩ := wide_16 x1 (by omega)
  obtain ⟨e2, w2⟩ := wide_16 x2 (by omega)
  obtain ⟨f1, m1⟩ := mul_16 w1 w1 (by generalize g.1 * g.1 = A at *; omega)
  obtain ⟨f2, m2⟩ := mul_16 w2 w2 (by generalize g.2 * g.2 = A at *; omega)
  obtain ⟨f3, s3⟩ := add_256 m1 m2 (by generalize g.1 * g.1 = A at *; generalize g.2 * g.2 = B at *; omega)
  exact ⟨⟨e1, e2, f1, f2, f3⟩, s3⟩
/-- The sum of the powers of a list, from left to right. -/
def psum (l : List (Nat × Nat)) : Nat := l.foldl (fun s x => bv .add s (pwW x)) 0
def sqs (l : List G) : Int := (l.map sq).sum
theorem sqs_le : ∀ (l : List G), (∀ x ∈ l, InG x) → 0 ≤ sqs l ∧ sqs l ≤ 2048 * l.length := by
  intro l
  induction l with
  | nil => intro _; exact ⟨by decide, by decide⟩
  | cons x l ih =>
    intro h
    have h1 := sq_le (h x (by simp))
    have h2 := ih (fun y hy => h y (by simp [hy]))
    unfold sqs at *
    rw [List.map_cons, List.sum_cons, List.length_cons]
    omega
theorem sqs_snoc (l : List G) (x : G) : sqs (l ++ [x]) = sqs l + sq x := by
  unfold sqs; simp
theorem psum_snoc (l : List (Nat × Nat)) (x : Nat × Nat) : psum (l ++ [x]) = bv .add (psum l) (pwW x) := by
  unfold psum; rw [List.foldl_append]; rfl
theorem psum_16 (n : Nat) : ∀ (l : List G), l.length = n → n ≤ 1000 → (∀ x ∈ l, InG x) → Sd 1066 (psum (l.map fW)) (sqs l) := by
  induction n with
  | zero =>
    intro l h _ _
    rw [List.length_eq_zero_iff.1 h]
    exact Sd.zero _
  | succ n ih =>
    intro l h hn hl
    have hne : l ≠ [] := by intro e; rw [e] at h; cases h
    have e := List.dropLast_concat_getLast hne
    have hd : l.dropLast.length = n := by simp [h]
    have hm : ∀ x ∈ l.dropLast, InG x := fun x hx => hl x (List.dropLast_subset l hx)
    have i := ih _ hd (by omega) hm
    have b1 := sqs_le _ hm
    have hg := hl _ (List.getLast_mem hne)
    have b2 := sq_le hg
    rw [← e, List.map_append, List.map_cons, List.map_nil, psum_snoc, sqs_snoc]
    exact (add_256 i (pow_16 hg).2 (by omega)).2
theorem psum_step (l : List G) (x : G) (hn : l.length < 1000) (hl : ∀ y ∈ l, InG y) (hx : InG x) : floatBits .add .f64 (psum (l.map fW)) (pwW (fW x)) = some (psum (l.map fW ++ [fW x])) := by
  have b1 := sqs_le _ hl
  have b2 := sq_le hx
  rw [psum_snoc]
  exact (add_256 (psum_16 _ l rfl (by omega) hl) (pow_16 hx).2 (by omega)).1

end Go.Proofs.Ytabbfpjngbiohaa.fineN
