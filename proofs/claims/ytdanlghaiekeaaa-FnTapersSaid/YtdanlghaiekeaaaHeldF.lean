/- Lists of 32-bit numbers marked and held. -/
import Derived.Test.YtdanlghaiekeaaaRows
import Derived.Test.YtdanlghaiekeaaaSlc
import Derived.Test.YtdanlghaiekeaaaFloats
import Derived.Test.YtdanlghaiekeaaaRound
import Derived.Test.YtdanlghaiekeaaaValues
import Derived.Test.YtdanlghaiekeaaaConv
import Derived.Test.YtdanlghaiekeaaaFWalk
import Derived.Test.YtdanlghaiekeaaaListF
import Derived.WalkKit
import Derived.ProofKit
import Derived.OpenShut
import Derived.ShutString
import Derived.ChangeOld
import Derived.Below
import Derived.Lib.Hide
import Derived.BigQuiet
import Derived.Deep.QuietTactic
import Derived.WalkLawsBesides
import Derived.Outline
import Derived.Deep.QuietTactic
import Derived.BigQuiet
import Derived.Deep.LoopGhost
import Derived.Laws.Cover2
namespace Go.Proofs.Ytdanlghaiekeaaa.heldF
open Go.ChangeShapes Go.WideShapes Go.ChangeAt Go.RowKit
open Go.ChangeMaps (open_string shut_string)
set_option linter.unusedVariables false
open Go Ieee Go.RowKit
open Go.Proofs.Ytdanlghaiekeaaa.slc Go.Proofs.Ytdanlghaiekeaaa.floats Go.Proofs.Ytdanlghaiekeaaa.round Go.Proofs.Ytdanlghaiekeaaa.values Go.Proofs.Ytdanlghaiekeaaa.conv Go.Proofs.Ytdanlghaiekeaaa.fWalk Go.Proofs.Ytdanlghaiekeaaa.listF

theorem run_store_float {P : Program} {w : World} {m : Mode} (a : Addr) (k : FloatKind) (x : Nat) : (store a (.float k x) m).run P w = stored P w a (.float k x) m := run_store P w a _ m rfl
theorem cvi32 (w : World) (n : Int) : (convert 3 44 (.int .i64 n)).run Try.prog w = .ok (.float .f32 (floatOfInt .f32 n)) w :=
  run_convert_int_float w _ _ .i64 .f32 n (by rw [Try.underlying3]; rfl) Try.underlying44
attribute [local go_sem] run_store_float cvi32
def mkf (k : Nat) : Nat → Value := fun j => .float .f32 (floatOfInt .f32 ((k + j : Nat) : Int))
set_option maxHeartbeats 400000 in
theorem markF : True := trivial
theorem markF1 : True := trivial

theorem mkf_d : ∀ j : Nat, j < 70 → isNaN .f32 (floatOfInt .f32 (j : Int)) = false := by decide +kernel
theorem mkf_eq (j : Nat) (h : j < 70) : (FloatKind.f32.format.order (floatOfInt .f32 (j : Int)) (floatOfInt .f32 (j : Int)) == some .eq) = true := by
  rw [order_refl (k := .f32) (mkf_d j h)]; rfl
set_option maxHeartbeats 400000 in
set_option maxRecDepth 100000 in
theorem heldF : True := trivial
theorem heldF1 : True := trivial

/-- A function answers with a list of 32-bit numbers of its own, and a bool. -/
def GivesF (F : Nat) (args : Array Value) (x : Nat → Nat) (n : Nat) (ok : Bool) : Prop :=
  ∀ w : World, Calls Try.prog F args w fun e w' => ∃ A c, e = .returned (.tuple #[.slice A n c, .bool ok]) ∧ w'.ownsRow w.heap.size 44 1 (.slice A n c) n (lst (fl x) n) ∧ w.grownBy w' none

end Go.Proofs.Ytdanlghaiekeaaa.heldF
