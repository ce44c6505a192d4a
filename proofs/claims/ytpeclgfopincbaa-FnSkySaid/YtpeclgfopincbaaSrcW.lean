/- Draws of complex numbers with small integers as parts. -/
import Derived.Test.YtpeclgfopincbaaRows
import Derived.Test.YtpeclgfopincbaaSlc
import Derived.Test.YtpeclgfopincbaaR8
import Derived.Test.YtpeclgfopincbaaSrc
import Derived.Test.YtpeclgfopincbaaFloats
import Derived.Test.YtpeclgfopincbaaRound
import Derived.Test.YtpeclgfopincbaaValues
import Derived.Test.YtpeclgfopincbaaConv
import Derived.Test.YtpeclgfopincbaaFWalk
import Derived.Test.YtpeclgfopincbaaFinWalk
import Derived.Test.YtpeclgfopincbaaFloat2
import Derived.Test.YtpeclgfopincbaaFloat3
import Derived.Test.YtpeclgfopincbaaPhase
import Derived.Test.YtpeclgfopincbaaSine
import Derived.Test.YtpeclgfopincbaaPhasor
import Derived.Test.YtpeclgfopincbaaListC
import Derived.Test.YtpeclgfopincbaaSteerNum
import Derived.Test.YtpeclgfopincbaaSineIn
import Derived.Test.YtpeclgfopincbaaPolyNum
import Derived.Test.YtpeclgfopincbaaPolyW
import Derived.Test.YtpeclgfopincbaaPoly1
import Derived.Test.YtpeclgfopincbaaGPoly
import Derived.Test.YtpeclgfopincbaaGNum
import Derived.WalkKit
import Derived.ProofKit
import Derived.OpenShut
import Derived.ShutString
import Derived.ChangeOld
import Derived.Below
import Derived.Lib.Hide
import Derived.BigQuiet
import Derived.Deep.QuietTactic
import Derived.WalkLawsBesides
import Derived.Outline
import Derived.Deep.QuietTactic
import Derived.BigQuiet
import Derived.Deep.LoopGhost
import Derived.Laws.ComplexArith
namespace Go.Proofs.Ytpeclgfopincbaa.srcW
open Go.ChangeShapes Go.WideShapes Go.ChangeAt Go.RowKit
open Go.ChangeMaps (open_string shut_string)
set_option linter.unusedVariables false
open Go Ieee Go.RowKit
open Go.Proofs.Ytpeclgfopincbaa.slc Go.Proofs.Ytpeclgfopincbaa.r8 Go.Proofs.Ytpeclgfopincbaa.src Go.Proofs.Ytpeclgfopincbaa.floats Go.Proofs.Ytpeclgfopincbaa.round Go.Proofs.Ytpeclgfopincbaa.values Go.Proofs.Ytpeclgfopincbaa.conv Go.Proofs.Ytpeclgfopincbaa.fWalk Go.Proofs.Ytpeclgfopincbaa.phase Go.Proofs.Ytpeclgfopincbaa.sine Go.Proofs.Ytpeclgfopincbaa.phasor Go.Proofs.Ytpeclgfopincbaa.listC Go.Proofs.Ytpeclgfopincbaa.polyNum Go.Proofs.Ytpeclgfopincbaa.polyW Go.Proofs.Ytpeclgfopincbaa.poly1 Go.Proofs.Ytpeclgfopincbaa.gPoly Go.Proofs.Ytpeclgfopincbaa.gNum

theorem cvi6432 (w : World) (n : Int) : (convert 2 29 (.int .i64 n)).run Try.prog w = .ok (.float .f32 (floatOfInt .f32 n)) w :=
  run_convert_int_float w _ _ .i64 .f32 n (by rw [Try.underlying2]; rfl) Try.underlying29
attribute [local go_sem] cvi6432

theorem snoc_cells (zs : List G) (z : G) (n : Nat) (h : zs.length = n) : lst (ccell (zs.map gw)) n ++ [.complex .f32 (gw z).1 (gw z).2] = lst (ccell ((zs ++ [z]).map gw)) (n + 1) := by
  have := ccell_snoc (zs.map gw) (gw z).1 (gw z).2
  rw [List.map_append, List.map_cons, List.map_nil]
  rw [← h]
  simp only [List.length_append, List.length_map, List.length_cons, List.length_nil, Nat.zero_add] at this
  exact this.symm
theorem own_far {w w' : World} {base b : Nat} {e : TypeId} {size : Nat} {v : Value} {n : Nat} {xs : List Value} (h : w.ownsRow base e size v n xs) (hg : w.grownBy w' (some b)) (hb : b < base) : w'.ownsRow base e size v n xs :=
  World.ownsRow.kept h hg (.inr (fun e => by
    have := (h.lt b e).1
    omega))
theorem own_not {w : World} {b : Nat} {e : TypeId} {size : Nat} {v : Value} {n : Nat} {xs : List Value} (h : w.ownsRow (b + 1) e size v n xs) : v.ownBlock ≠ some b := fun e => by
  have := (h.lt b e).1
  omega
theorem from_is (A : Option Addr) (n c : Nat) (w : World) : Calls Try.prog 93 #[.slice A n c] w fun e w' => e = .returned (.pointer (some ⟨w.heap.size, 0, none⟩)) ∧ Src w' w.heap.size A n c 0 ∧ w.grownBy w' none := by
  have hs := Src.new w A n c
  have hg := World.grownBy_alloc w (.cells #[.slice A n c, .int .i64 0, .int .u64 0] 182) none
  have HS := Lib.hid hs
  have HG := Lib.hid hg
  clear hs hg
  go_enter Try.func93, Try.ntmps93
  go_wp2_with fail
  go_ret
  exact ⟨rfl, HS.out, HG.out⟩
set_option maxHeartbeats 2000000 in
set_option maxRecDepth 100000 in
theorem whole_is : True := trivial

end Go.Proofs.Ytpeclgfopincbaa.srcW
