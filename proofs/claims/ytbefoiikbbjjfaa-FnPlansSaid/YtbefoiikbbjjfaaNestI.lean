/- Lists of lists of integers in memory, compared, marked and held in a law. -/
import Derived.Test.YtbefoiikbbjjfaaRows
import Derived.Test.YtbefoiikbbjjfaaSlc
import Derived.Test.YtbefoiikbbjjfaaSmall
import Derived.Test.YtbefoiikbbjjfaaOpens
import Derived.Test.YtbefoiikbbjjfaaListI
import Derived.WalkKit
import Derived.ProofKit
import Derived.OpenShut
import Derived.ShutString
import Derived.ChangeOld
import Derived.Below
import Derived.Lib.Hide
import Derived.BigQuiet
import Derived.Deep.QuietTactic
import Derived.WalkLawsBesides
import Derived.Outline
import Derived.Deep.QuietTactic
import Derived.BigQuiet
import Derived.Deep.LoopGhost
import Derived.Deep.RegionHeld3
import Derived.Deep.RegionWith
import Derived.StillTailTactics
namespace Go.Proofs.Ytbefoiikbbjjfaa.nestI
open Go.ChangeShapes Go.WideShapes Go.ChangeAt Go.RowKit
open Go.ChangeMaps (open_string shut_string)
set_option linter.unusedVariables false
open Go Go.RowKit
open Go.Proofs.Ytbefoiikbbjjfaa.slc Go.Proofs.Ytbefoiikbbjjfaa.small Go.Proofs.Ytbefoiikbbjjfaa.opens Go.Proofs.Ytbefoiikbbjjfaa.listI

/-- The row k, in the block a k. -/
def orow (a c m : Nat → Nat) (k : Nat) : Value := .slice (some ⟨a k, 0, none⟩) (m k) (c k)
/-- n rows of m k numbers each lie there. -/
def RdN (w : World) (B : Nat) (O : Option Addr) (n : Nat) (m a c : Nat → Nat) (f : Nat → Nat → Value) : Prop :=
  Rd w B O n (orow a c m) ∧ ∀ k, k < n → Rd w B (some ⟨a k, 0, none⟩) (m k) (f k)
theorem RdN.kept0 {w w' : World} {B n : Nat} {O : Option Addr} {m a c : Nat → Nat} {f : Nat → Nat → Value} (h : RdN w B O n m a c f) (hg : w.grownBy w' none) (hB : B ≤ w.heap.size) : RdN w' B O n m a c f :=
  ⟨h.1.kept0 hg hB, fun k hk => (h.2 k hk).kept0 hg hB⟩
theorem RdN.mono {w : World} {B B' n : Nat} {O : Option Addr} {m a c : Nat → Nat} {f : Nat → Nat → Value} (h : RdN w B O n m a c f) (hB : B ≤ B') : RdN w B' O n m a c f :=
  ⟨h.1.mono hB, fun k hk => (h.2 k hk).mono hB⟩
theorem RdN.below {w w' : World} {B n : Nat} {O : Option Addr} {m a c : Nat → Nat} {f : Nat → Nat → Value} (h : RdN w B O n m a c f) (hb : Below B w w') : RdN w' B O n m a c f :=
  ⟨h.1.below hb, fun k hk => (h.2 k hk).below hb⟩
/-- n rows are the call's own, each in a block of its own. -/
structure OwnN (w : World) (base : Nat) (v : Value) (n : Nat) (m a c : Nat → Nat) (f : Nat → Nat → Value) : Prop where
  outer : w.ownsRow base 46 1 v n (lst (orow a c m) n)
  rows : ∀ k, k < n → w.ownsRow base 2 1 (orow a c m k) (m k) (lst (f k) (m k))
  apart : ∀ j k, j < n → k < n → j ≠ k → a j ≠ a k
  other : ∀ k, k < n → v.ownBlock ≠ some (a k)
theorem OwnN.kept0 {w w' : World} {base n : Nat} {v : Value} {m a c : Nat → Nat} {f : Nat → Nat → Value} (h : OwnN w base v n m a c f) (hg : w.grownBy w' none) : OwnN w' base v n m a c f :=
  ⟨own_kept0 h.outer hg, fun k hk => own_kept0 (h.rows k hk) hg, h.apart, h.other⟩
theorem OwnN.rd {w : World} {base n c0 : Nat} {O : Option Addr} {m a c : Nat → Nat} {f : Nat → Nat → Value} (h : OwnN w base (.slice O n c0) n m a c f) : RdN w w.heap.size O n m a c f :=
  ⟨Rd.of_lst h.outer (Nat.mul_one _).symm, fun k hk => Rd.of_lst (h.rows k hk) (Nat.mul_one _).symm⟩
theorem OwnN.mono {w : World} {b b' n : Nat} {v : Value} {m a c : Nat → Nat} {f : Nat → Nat → Value} (h : OwnN w b v n m a c f) (hb : b' ≤ b) : OwnN w b' v n m a c f :=
  ⟨own_mono h.outer hb, fun k hk => own_mono (h.rows k hk) hb, h.apart, h.other⟩
theorem OwnN.row_at {w : World} {base n : Nat} {v : Value} {m a c : Nat → Nat} {f : Nat → Nat → Value} (h : OwnN w base v n m a c f) {k : Nat} (hk : k < n) : base ≤ a k ∧ a k < w.heap.size := own_base (h.rows k hk) (a k) rfl

set_option maxHeartbeats 800000 in
set_option maxRecDepth 100000 in
theorem eqN : True := trivial

/-- Where the marks of the row i begin. -/
def mk (s : Nat) (m : Nat → Nat) : Nat → Nat
  | 0 => s
  | i + 1 => mk s m i + m i
theorem mk_le (s : Nat) (m : Nat → Nat) (n : Nat) : ∀ i, i ≤ n → mk s m i ≤ mk s m n := by
  intro i
  induction n with
  | zero => intro h; obtain rfl : i = 0 := by omega
            exact Nat.le_refl _
  | succ n ih =>
    intro h
    by_cases e : i = n + 1
    · subst e; exact Nat.le_refl _
    · exact Nat.le_trans (ih (by omega)) (Nat.le_add_right _ _)
def mixN (g f : Nat → Nat → Value) (i : Nat) : Nat → Nat → Value := fun k => if k < i then g k else f k
theorem mixN_zero (g f : Nat → Nat → Value) : mixN g f 0 = f := by funext k; simp [mixN]
theorem OwnN.put {w w' : World} {base n j : Nat} {v : Value} {m a c : Nat → Nat} {f : Nat → Nat → Value} {g : Nat → Value} (h : OwnN w base v n m a c f) (hj : j < n)
    (ho : w'.ownsRow base 2 1 (orow a c m j) (m j) (lst g (m j))) (hg : w.grownBy w' (some (a j))) : OwnN w' base v n m a c (fun k => if k = j then g else f k) := by
  refine ⟨World.ownsRow.kept h.outer hg (.inr (h.other j hj)), fun k hk => ?_, h.apart, h.other⟩
  by_cases e : k = j
  · subst e
    rw [if_pos rfl]
    exact ho
  · rw [if_neg e]
    exact World.ownsRow.kept (h.rows k hk) hg (.inr (by simpa [orow, Value.ownBlock] using h.apart k j hk hj e))
/-- Of the blocks that were there, only rows have changed. -/
structure OnlyRows (n : Nat) (a : Nat → Nat) (w w' : World) : Prop where
  os : w'.os = w.os
  tape : w'.tape = w.tape
  output : w'.output = w.output
  size : w.heap.size ≤ w'.heap.size
  block : ∀ k, k < w.heap.size → (∀ i, i < n → k ≠ a i) → w'.heap[k]? = w.heap[k]?
theorem OnlyRows.refl (n : Nat) (a : Nat → Nat) (w : World) : OnlyRows n a w w := ⟨rfl, rfl, rfl, Nat.le_refl _, fun _ _ _ => rfl⟩
theorem OnlyRows.row {n j : Nat} {a : Nat → Nat} {w wr w' : World} (h : OnlyRows n a w wr) (hj : j < n) (hg : wr.grownBy w' (some (a j))) : OnlyRows n a w w' :=
  ⟨hg.os.trans h.os, hg.tape.trans h.tape, hg.output.trans h.output, Nat.le_trans h.size hg.size, fun k hk hne => (hg.block k (Nat.lt_of_lt_of_le hk h.size) (by intro e; injection e with e; exact hne j hj e)).trans (h.block k hk hne)⟩
theorem OnlyRows.below {n B : Nat} {a : Nat → Nat} {w w' : World} (h : OnlyRows n a w w') (hB : B ≤ w.heap.size) (hr : ∀ i, i < n → B ≤ a i) : Below B w w' :=
  ⟨h.os, h.tape, h.output, h.size, fun k hk => h.block k (by omega) (fun i hi => by have := hr i hi; omega)⟩
theorem mixN_succ (g f : Nat → Nat → Value) (j : Nat) : (fun k => if k = j then g j else mixN g f j k) = mixN g f (j + 1) := by
  funext k
  unfold mixN
  by_cases e : k = j
  · subst e; simp
  · rw [if_neg e]
    by_cases h : k < j
    · rw [if_pos h, if_pos (by omega)]
    · rw [if_neg h, if_neg (by omega)]
theorem OwnN.mixed {w : World} {base n : Nat} {v : Value} {m a c : Nat → Nat} {g f : Nat → Nat → Value} (h : OwnN w base v n m a c (mixN g f n)) : OwnN w base v n m a c g :=
  ⟨h.outer, fun k hk => by have := h.rows k hk; unfold mixN at this; rwa [if_pos hk] at this, h.apart, h.other⟩
def mkf (s : Nat) (m : Nat → Nat) (k : Nat) : Nat → Value := mkv ((mk s m k : Nat) : Int)

set_option maxHeartbeats 800000 in
set_option maxRecDepth 100000 in
theorem markN : True := trivial

set_option maxHeartbeats 800000 in
set_option maxRecDepth 100000 in
theorem heldN : True := trivial

end Go.Proofs.Ytbefoiikbbjjfaa.nestI
