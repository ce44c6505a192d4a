/- What the laws on plans do to their lists. -/
import Derived.Test.YtmemclcoegmjjaaRows
import Derived.Test.YtmemclcoegmjjaaSlc
import Derived.Test.YtmemclcoegmjjaaSmall
import Derived.Test.YtmemclcoegmjjaaOpens
import Derived.Test.YtmemclcoegmjjaaListI
import Derived.Test.YtmemclcoegmjjaaBeams
import Derived.Test.YtmemclcoegmjjaaListBeam
import Derived.Test.YtmemclcoegmjjaaListSlot
import Derived.Test.YtmemclcoegmjjaaPlanNum
import Derived.WalkKit
import Derived.ProofKit
import Derived.OpenShut
import Derived.ShutString
import Derived.ChangeOld
import Derived.Below
import Derived.Lib.Hide
import Derived.BigQuiet
import Derived.Deep.QuietTactic
import Derived.WalkLawsBesides
import Derived.Outline
import Derived.Deep.QuietTactic
import Derived.BigQuiet
import Derived.Deep.LoopGhost
namespace Go.Proofs.Ytmemclcoegmjjaa.planLaw
open Go.ChangeShapes Go.WideShapes Go.ChangeAt Go.RowKit
open Go.ChangeMaps (open_string shut_string)
set_option linter.unusedVariables false
open Go Go.RowKit
open Go.Proofs.Ytmemclcoegmjjaa.slc Go.Proofs.Ytmemclcoegmjjaa.small Go.Proofs.Ytmemclcoegmjjaa.opens Go.Proofs.Ytmemclcoegmjjaa.listI Go.Proofs.Ytmemclcoegmjjaa.beams Go.Proofs.Ytmemclcoegmjjaa.listBeam Go.Proofs.Ytmemclcoegmjjaa.listSlot

theorem markB1 (A : Option Addr) (n c base : Nat) (e : TypeId) (f : Nat → Value) (w : World) (hn : n ≤ 1099511627776) (ho : w.ownsRow base e 4 (.slice A n c) n (lst f (n * 4))) :
    Calls Try.prog 55 #[.slice A n c, .int .i64 1] w fun en w' => en = .returned (.int .i64 ((n : Int) * 4 + 1)) ∧ w.grownBy w' (A.map Addr.block) :=
  (markB A n c base e 1 f w (by omega) ho).mono fun en w' ⟨h1, h2⟩ => ⟨by rw [h1]; go_num, h2⟩
theorem markL2 (A : Option Addr) (n c base : Nat) (e : TypeId) (f : Nat → Value) (n0 : Nat) (w : World) (hn : n ≤ 1099511627776 ∧ n0 ≤ 1099511627776) (ho : w.ownsRow base e 2 (.slice A n c) n (lst f (n * 2))) :
    Calls Try.prog 56 #[.slice A n c, .int .i64 ((n0 : Int) * 4 + 1)] w fun en w' => en = .returned (.int .i64 ((n0 : Int) * 4 + 1 + n * 2)) ∧ w'.ownsRow base e 2 (.slice A n c) n (lst (mkv (n0 * 4 + 1 : Nat)) (n * 2)) ∧ w.grownBy w' (A.map Addr.block) := by
  have h := markL A n c base e (n0 * 4 + 1) f w (by omega) ho
  rw [show ((n0 * 4 + 1 : Nat) : Int) = (n0 : Int) * 4 + 1 by omega] at h
  exact h.mono fun en w' ⟨h1, h2, h3⟩ => ⟨by rw [h1, show ((n0 * 4 + 1 + n * 2 : Nat) : Int) = (n0 : Int) * 4 + 1 + n * 2 by omega], by rw [show ((n0 * 4 + 1 : Nat) : Int) = (n0 : Int) * 4 + 1 by omega]; exact h2, h3⟩
/-- A newer row stays as it is when an older one changes. -/
theorem keep_new {w w0 w' : World} {base b0 : Nat} {e e0 : TypeId} {size s0 n n0 c0 : Nat} {v : Value} {A0 : Option Addr} {xs ys : List Value} (h : w.ownsRow base e size v n xs) (h0 : w0.ownsRow b0 e0 s0 (.slice A0 n0 c0) n0 ys) (hle : w0.heap.size ≤ base)
    (hg : w.grownBy w' (A0.map Addr.block)) : w'.ownsRow base e size v n xs :=
  World.ownsRow.kept h hg (by
    cases hb : v.ownBlock with
    | none => exact .inl rfl
    | some b =>
      refine .inr fun e => ?_
      have h1 := (h.lt b hb).1
      have h2 := (own_base h0 b e.symm).2
      omega)

end Go.Proofs.Ytmemclcoegmjjaa.planLaw
