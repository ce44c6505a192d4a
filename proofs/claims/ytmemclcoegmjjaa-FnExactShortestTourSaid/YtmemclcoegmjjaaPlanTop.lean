/- IsPlan by the model; lists of integers as cells. -/
import Derived.Test.YtmemclcoegmjjaaRows
import Derived.Test.YtmemclcoegmjjaaSlc
import Derived.Test.YtmemclcoegmjjaaSmall
import Derived.Test.YtmemclcoegmjjaaOpens
import Derived.Test.YtmemclcoegmjjaaBeams
import Derived.Test.YtmemclcoegmjjaaListBeam
import Derived.Test.YtmemclcoegmjjaaListSlot
import Derived.Test.YtmemclcoegmjjaaPlanNum
import Derived.Test.YtmemclcoegmjjaaSwT
import Derived.Test.YtmemclcoegmjjaaBeamsOk
import Derived.Test.YtmemclcoegmjjaaPlanDue
import Derived.Test.YtmemclcoegmjjaaPlanIs
import Derived.Test.YtmemclcoegmjjaaPlanSpec
import Derived.WalkKit
import Derived.ProofKit
import Derived.OpenShut
import Derived.ShutString
import Derived.ChangeOld
import Derived.Below
import Derived.Lib.Hide
import Derived.BigQuiet
import Derived.Deep.QuietTactic
import Derived.WalkLawsBesides
import Derived.Outline
import Derived.Deep.QuietTactic
import Derived.BigQuiet
import Derived.Deep.LoopGhost
namespace Go.Proofs.Ytmemclcoegmjjaa.planTop
open Go.ChangeShapes Go.WideShapes Go.ChangeAt Go.RowKit
open Go.ChangeMaps (open_string shut_string)
set_option linter.unusedVariables false
open Go Go.RowKit
open Go.Proofs.Ytmemclcoegmjjaa.slc Go.Proofs.Ytmemclcoegmjjaa.small Go.Proofs.Ytmemclcoegmjjaa.opens Go.Proofs.Ytmemclcoegmjjaa.beams Go.Proofs.Ytmemclcoegmjjaa.listBeam Go.Proofs.Ytmemclcoegmjjaa.planNum Go.Proofs.Ytmemclcoegmjjaa.beamsOk Go.Proofs.Ytmemclcoegmjjaa.planDue Go.Proofs.Ytmemclcoegmjjaa.planIs Go.Proofs.Ytmemclcoegmjjaa.planSpec

set_option maxHeartbeats 800000 in
set_option maxRecDepth 100000 in
theorem is_spec : True := trivial

/-- The cells of a list of integers. -/
def cls (xs : List Int) (j : Nat) : Value := (ints xs).getD j undef
theorem cls_lst (xs : List Int) : lst (cls xs) xs.length = ints xs := by
  have h := lst_of (ints xs)
  rw [ints_len] at h
  exact h
theorem cls_ints (xs : List Int) : Ints (cls xs) xs.length := Ints.of xs xs.length (Nat.le_refl _)
theorem cls_at (xs : List Int) {j : Nat} (hj : j < xs.length) : cls xs j = .int .i64 (xs.getD j 0) := by
  rw [show cls xs j = .int .i64 xs[j] from ints_getD xs j hj]
  simp [List.getD, hj]
/-- A list by its index. -/
def lof (f : Nat → Int) (n : Nat) : List Int := (List.range n).map f
theorem lof_len (f : Nat → Int) (n : Nat) : (lof f n).length = n := by simp [lof]
theorem lof_cls (f : Nat → Int) (n : Nat) : lst (fun k => Value.int .i64 (f k)) n = lst (cls (lof f n)) n := lst_congr fun j hj => by
  rw [show cls (lof f n) j = .int .i64 ((lof f n).getD j 0) from cls_at _ (by rw [lof_len]; exact hj)]
  simp [lof, List.getD, hj]

end Go.Proofs.Ytmemclcoegmjjaa.planTop
