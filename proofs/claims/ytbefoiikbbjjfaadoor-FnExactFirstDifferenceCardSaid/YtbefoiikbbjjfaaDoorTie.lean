/-
  DERIVED. GIVEN WITH THE SEED: THE PROGRAM's TIES (one call each: nine closed facts by the kernel) AND EACH ROW's TIE, after the 31st guide's Derived/Test/Toyas{Tie, Card}.lean. No idea stands in it: it is a product of the set-up. Laid BY PROGRAM, IN A SANDBOX (cutbox-door.mjs). By AI agents, Wed Nov 11 2026. No macro, syntax, notation, axiom, sorry.
-/
import Derived.Test.YtbefoiikbbjjfaaDoorRows
import Derived.LaidByTextLater
import Derived.SevenTiedAt
import Derived.LaidSub
import Derived.LaidOnce
namespace Go.Proofs.YtbefoiikbbjjfaaDoor
open Go
set_option maxRecDepth 100000
theorem seatTie1 : Tryd.prog.laidByTextLater [("loop.example/g01181/impl.errNoRecord", Rows.laid_loop_example_g01181_impl_errNoRecord), ("loop.example/g01181/impl.errEnd", Rows.laid_loop_example_g01181_impl_errEnd), ("loop.example/g01181/impl.errCut", Rows.laid_loop_example_g01181_impl_errCut), ("loop.example/g01181/impl.errNoFrame", Rows.laid_loop_example_g01181_impl_errNoFrame), ("loop.example/g01181/impl.errMisplaced", Rows.laid_loop_example_g01181_impl_errMisplaced)] [.sentinel, .sentinel, .sentinel, .sentinel, .sentinel] true :=
  Program.laidByTextLater_by_one 104 8 2 (by kernel_rfl) (by kernel_rfl) (by kernel_rfl) (by kernel_rfl) (by kernel_rfl) (by kernel_rfl) (fun _ _ => by kernel_rfl)
theorem noOwnUnsafe : Tryd.pinned.checked.prog.headLifts.contains "ownunsafe" = false := by kernel_rfl
theorem tie : Tryd.prog.laidByTextLater [("loop.example/g01181/impl.errNoRecord", Rows.laid_loop_example_g01181_impl_errNoRecord)] [.sentinel] true :=
  Program.laidByTextLater.sub seatTie1 ["loop.example/g01181/impl.errNoRecord"] (by kernel_rfl) (by kernel_rfl)
theorem fnExactFirstDifference_row_tie : Rows.fnExactFirstDifferenceRow.laidByTextAt .later Tryd.pinned [.sentinel] true :=
  OpenClaim.laidByTextAt_later rfl rfl tie noOwnUnsafe
theorem tie2 : Tryd.prog.laidByTextLater [("loop.example/g01181/impl.errNoRecord", Rows.laid_loop_example_g01181_impl_errNoRecord), ("loop.example/g01181/impl.errEnd", Rows.laid_loop_example_g01181_impl_errEnd), ("loop.example/g01181/impl.errCut", Rows.laid_loop_example_g01181_impl_errCut), ("loop.example/g01181/impl.errNoFrame", Rows.laid_loop_example_g01181_impl_errNoFrame)] [.sentinel, .sentinel, .sentinel, .sentinel] true :=
  Program.laidByTextLater.sub seatTie1 ["loop.example/g01181/impl.errNoRecord", "loop.example/g01181/impl.errEnd", "loop.example/g01181/impl.errCut", "loop.example/g01181/impl.errNoFrame"] (by kernel_rfl) (by kernel_rfl)
theorem fnExactFrameAt_row_tie : Rows.fnExactFrameAtRow.laidByTextAt .later Tryd.pinned [.sentinel, .sentinel, .sentinel, .sentinel] true :=
  OpenClaim.laidByTextAt_later rfl rfl tie2 noOwnUnsafe
theorem tie3 : Tryd.prog.laidByTextLater [("loop.example/g01181/impl.errNoRecord", Rows.laid_loop_example_g01181_impl_errNoRecord), ("loop.example/g01181/impl.errEnd", Rows.laid_loop_example_g01181_impl_errEnd), ("loop.example/g01181/impl.errCut", Rows.laid_loop_example_g01181_impl_errCut), ("loop.example/g01181/impl.errNoFrame", Rows.laid_loop_example_g01181_impl_errNoFrame), ("loop.example/g01181/impl.errMisplaced", Rows.laid_loop_example_g01181_impl_errMisplaced)] [.sentinel, .sentinel, .sentinel, .sentinel, .sentinel] true :=
  Program.laidByTextLater.sub seatTie1 ["loop.example/g01181/impl.errNoRecord", "loop.example/g01181/impl.errEnd", "loop.example/g01181/impl.errCut", "loop.example/g01181/impl.errNoFrame", "loop.example/g01181/impl.errMisplaced"] (by kernel_rfl) (by kernel_rfl)
theorem fnExactLoadRecord_row_tie : Rows.fnExactLoadRecordRow.laidByTextAt .later Tryd.pinned [.sentinel, .sentinel, .sentinel, .sentinel, .sentinel] true :=
  OpenClaim.laidByTextAt_later rfl rfl tie3 noOwnUnsafe
theorem fnExactRecoverRecord_row_tie : Rows.fnExactRecoverRecordRow.laidByTextAt .later Tryd.pinned [.sentinel, .sentinel, .sentinel, .sentinel, .sentinel] true :=
  OpenClaim.laidByTextAt_later rfl rfl tie3 noOwnUnsafe
theorem fnKept_row_tie : Rows.fnKeptRow.laidByTextAt .later Tryd.pinned [.sentinel, .sentinel, .sentinel, .sentinel, .sentinel] true :=
  OpenClaim.laidByTextAt_later rfl rfl tie3 noOwnUnsafe
theorem fnExactFirstDifferenceUpto_row_tie : Rows.fnExactFirstDifferenceUptoRow.laidByTextAt .later Tryd.pinned [.sentinel] true :=
  OpenClaim.laidByTextAt_later rfl rfl tie noOwnUnsafe
theorem fnExactFrameAtUpto_row_tie : Rows.fnExactFrameAtUptoRow.laidByTextAt .later Tryd.pinned [.sentinel, .sentinel, .sentinel, .sentinel] true :=
  OpenClaim.laidByTextAt_later rfl rfl tie2 noOwnUnsafe
theorem fnExactLoadRecordUpto_row_tie : Rows.fnExactLoadRecordUptoRow.laidByTextAt .later Tryd.pinned [.sentinel, .sentinel, .sentinel, .sentinel, .sentinel] true :=
  OpenClaim.laidByTextAt_later rfl rfl tie3 noOwnUnsafe
theorem fnExactRecoverRecordUpto_row_tie : Rows.fnExactRecoverRecordUptoRow.laidByTextAt .later Tryd.pinned [.sentinel, .sentinel, .sentinel, .sentinel, .sentinel] true :=
  OpenClaim.laidByTextAt_later rfl rfl tie3 noOwnUnsafe
theorem fnKeptUpto_row_tie : Rows.fnKeptUptoRow.laidByTextAt .later Tryd.pinned [.sentinel, .sentinel, .sentinel, .sentinel, .sentinel] true :=
  OpenClaim.laidByTextAt_later rfl rfl tie3 noOwnUnsafe
end Go.Proofs.YtbefoiikbbjjfaaDoor
