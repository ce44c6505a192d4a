/-
  NARROWER THAN 'FOR EVERY INPUT', by the rows' own cells (each row's printed sentence says how): FnExactFirstDifference: ifaces, laid · FnExactFrameAt: ifaces, laid · FnExactLoadRecord: ifaces, laid · FnExactRecoverRecord: ifaces, laid · FnKept: ifaces, laid.
  DERIVED. THE GIVEN ROWS OF THIS SEAT. 5 by the template 'for every input the law returns true; each argument reads behind the call as it read before'; 0 by the template 'total and deterministic' (their statements: YtbefoiikbbjjfaaDoorTotals.lean).
  GIVEN WITH THE SEED: the statements are not yours to turn. If you find one false, say at which input.
  Laid BY PROGRAM, IN A SANDBOX (cutbox-rows.mjs): the forced cells as the released guide's own fill.sh prints them over the translation b01d718a8b62de55… (all of the seat's roots in one cut). By AI agents, Wed Nov 11 2026. No macro, syntax, notation, axiom, sorry.
-/
import Derived.Test.YtbefoiikbbjjfaaDoorChecked
import GoSem.Claim
import GoSem.ClaimJoined
import GoSem.ClaimMapViews
import Derived.JoinedTies
import Derived.KernelRfl
namespace Go.Proofs.YtbefoiikbbjjfaaDoor
/- THE CELL 'sum', in the pinned program and in every row, IS THE sha256 OF THE DUMP (.gsa) THAT YtbefoiikbbjjfaaDoorProg.lean LOADS. Nothing in Lean hashes anything: it is a label: what it is worth is what the hold of that sum in a sandbox is worth. -/
noncomputable def Tryd.pinned : Pinned := { name := "ytbefoiikbbjjfaadoor", sum := "b01d718a8b62de558b339dd9d996ce92d4d0cb54a29a35f41f9687f289282d5a", checked := Tryd.checked }
namespace Rows
def none {H : Type} : Left H := { results := [], args := [] }

/- WHAT THE LISTED PACKAGE-LEVEL VARIABLES READ AS WHEN THE CALL BEGINS. Each datum BY PROGRAM (the guide's laid-datum.mjs) off the statement by which the dump's own 'gosem.cut.vars' lays the variable. In a bare row this is a premise. The card (YtbefoiikbbjjfaaDoorCards.lean) ties it to the program's text. -/
def laid_loop_example_g01181_impl_errNoRecord {H : Type} : DataW H := .iface "*errors.errorString" (.ptr (.agg [.lit (.string [116, 104, 101, 32, 98, 121, 116, 101, 115, 32, 100, 111, 32, 110, 111, 116, 32, 98, 101, 103, 105, 110, 32, 97, 115, 32, 97, 32, 114, 101, 99, 111, 114, 100])]))
def laid_loop_example_g01181_impl_errEnd {H : Type} : DataW H := .iface "*errors.errorString" (.ptr (.agg [.lit (.string [110, 111, 32, 98, 121, 116, 101, 115, 32, 97, 114, 101, 32, 108, 101, 102, 116])]))
def laid_loop_example_g01181_impl_errCut {H : Type} : DataW H := .iface "*errors.errorString" (.ptr (.agg [.lit (.string [102, 101, 119, 101, 114, 32, 98, 121, 116, 101, 115, 32, 97, 114, 101, 32, 108, 101, 102, 116, 32, 116, 104, 97, 110, 32, 97, 32, 102, 114, 97, 109, 101, 32, 104, 97, 115])]))
def laid_loop_example_g01181_impl_errNoFrame {H : Type} : DataW H := .iface "*errors.errorString" (.ptr (.agg [.lit (.string [110, 111, 32, 102, 114, 97, 109, 101, 32, 105, 115, 32, 115, 116, 111, 114, 101, 100, 32, 105, 110, 32, 116, 104, 101, 115, 101, 32, 98, 121, 116, 101, 115])]))
def laid_loop_example_g01181_impl_errMisplaced {H : Type} : DataW H := .iface "*errors.errorString" (.ptr (.agg [.lit (.string [116, 104, 101, 32, 102, 114, 97, 109, 101, 32, 99, 97, 110, 110, 111, 116, 32, 98, 101, 32, 116, 104, 101, 32, 110, 101, 120, 116, 32, 111, 110, 101, 32, 111, 102, 32, 116, 104, 101, 32, 114, 101, 99, 111, 114, 100])]))

/-- 'laws.FnExactFirstDifference': WHATEVER THE INPUT: true; the input reads as it did. -/
def fnExactFirstDifferenceSpec : ChangeSpec := { name := "fnExactFirstDifference", vars := ["loop.example/g01181/impl.errNoRecord"], fn := fun _ => fun
  | [d1, d2, g1] => { results := [.lit (.bool true)], args := [d1, d2], vars := [g1] }
  | _ => none }
def fnExactFirstDifferenceRow : OpenClaim := { program := "ytbefoiikbbjjfaadoor", sum := "b01d718a8b62de558b339dd9d996ce92d4d0cb54a29a35f41f9687f289282d5a", func := "loop.example/g01181/laws.FnExactFirstDifference", spec := "fnExactFirstDifference", named := ["loop.example/g01181/impl.errNoRecord"], ifaces := true, apart := false, laid := [("loop.example/g01181/impl.errNoRecord", laid_loop_example_g01181_impl_errNoRecord)] }
def FnExactFirstDifferenceSaid : Prop := fnExactFirstDifferenceRow.holds Tryd.pinned (OpenSpec.ofChange fnExactFirstDifferenceSpec)

/-- ITS FALSE NEIGHBOUR: 'it returns false'. Refute it at one input. -/
def fnExactFirstDifferenceWrong : ChangeSpec := { name := "fnExactFirstDifference", vars := ["loop.example/g01181/impl.errNoRecord"], fn := fun _ => fun
  | [d1, d2, g1] => { results := [.lit (.bool false)], args := [d1, d2], vars := [g1] }
  | _ => none }
def FnExactFirstDifferenceWrongFalsely : Prop := fnExactFirstDifferenceRow.holds Tryd.pinned (OpenSpec.ofChange fnExactFirstDifferenceWrong)

/-- 'laws.FnExactFrameAt': WHATEVER THE INPUT: true; the input reads as it did. -/
def fnExactFrameAtSpec : ChangeSpec := { name := "fnExactFrameAt", vars := ["loop.example/g01181/impl.errNoRecord", "loop.example/g01181/impl.errEnd", "loop.example/g01181/impl.errCut", "loop.example/g01181/impl.errNoFrame"], fn := fun _ => fun
  | [d1, d2, g1, g2, g3, g4] => { results := [.lit (.bool true)], args := [d1, d2], vars := [g1, g2, g3, g4] }
  | _ => none }
def fnExactFrameAtRow : OpenClaim := { program := "ytbefoiikbbjjfaadoor", sum := "b01d718a8b62de558b339dd9d996ce92d4d0cb54a29a35f41f9687f289282d5a", func := "loop.example/g01181/laws.FnExactFrameAt", spec := "fnExactFrameAt", inPlace := ["math.Float32frombits", "math.Float32bits"], unfollowed := true, recurses := true, named := ["loop.example/g01181/impl.errNoRecord", "loop.example/g01181/impl.errEnd", "loop.example/g01181/impl.errCut", "loop.example/g01181/impl.errNoFrame"], ifaces := true, apart := false, laid := [("loop.example/g01181/impl.errNoRecord", laid_loop_example_g01181_impl_errNoRecord), ("loop.example/g01181/impl.errEnd", laid_loop_example_g01181_impl_errEnd), ("loop.example/g01181/impl.errCut", laid_loop_example_g01181_impl_errCut), ("loop.example/g01181/impl.errNoFrame", laid_loop_example_g01181_impl_errNoFrame)] }
def FnExactFrameAtSaid : Prop := fnExactFrameAtRow.holds Tryd.pinned (OpenSpec.ofChange fnExactFrameAtSpec)

/-- ITS FALSE NEIGHBOUR: 'it returns false'. Refute it at one input. -/
def fnExactFrameAtWrong : ChangeSpec := { name := "fnExactFrameAt", vars := ["loop.example/g01181/impl.errNoRecord", "loop.example/g01181/impl.errEnd", "loop.example/g01181/impl.errCut", "loop.example/g01181/impl.errNoFrame"], fn := fun _ => fun
  | [d1, d2, g1, g2, g3, g4] => { results := [.lit (.bool false)], args := [d1, d2], vars := [g1, g2, g3, g4] }
  | _ => none }
def FnExactFrameAtWrongFalsely : Prop := fnExactFrameAtRow.holds Tryd.pinned (OpenSpec.ofChange fnExactFrameAtWrong)

/-- 'laws.FnExactLoadRecord': WHATEVER THE INPUT: true; the input reads as it did. -/
def fnExactLoadRecordSpec : ChangeSpec := { name := "fnExactLoadRecord", vars := ["loop.example/g01181/impl.errEnd", "loop.example/g01181/impl.errMisplaced", "loop.example/g01181/impl.errNoRecord", "loop.example/g01181/impl.errCut", "loop.example/g01181/impl.errNoFrame"], fn := fun _ => fun
  | [d, g1, g2, g3, g4, g5] => { results := [.lit (.bool true)], args := [d], vars := [g1, g2, g3, g4, g5] }
  | _ => none }
def fnExactLoadRecordRow : OpenClaim := { program := "ytbefoiikbbjjfaadoor", sum := "b01d718a8b62de558b339dd9d996ce92d4d0cb54a29a35f41f9687f289282d5a", func := "loop.example/g01181/laws.FnExactLoadRecord", spec := "fnExactLoadRecord", inPlace := ["math.Float32frombits", "math.Float32bits", "internal/reflectlite.TypeOf"], unfollowed := true, recurses := true, named := ["loop.example/g01181/impl.errEnd", "loop.example/g01181/impl.errMisplaced", "loop.example/g01181/impl.errNoRecord", "loop.example/g01181/impl.errCut", "loop.example/g01181/impl.errNoFrame"], ifaces := true, apart := false, laid := [("loop.example/g01181/impl.errNoRecord", laid_loop_example_g01181_impl_errNoRecord), ("loop.example/g01181/impl.errEnd", laid_loop_example_g01181_impl_errEnd), ("loop.example/g01181/impl.errCut", laid_loop_example_g01181_impl_errCut), ("loop.example/g01181/impl.errNoFrame", laid_loop_example_g01181_impl_errNoFrame), ("loop.example/g01181/impl.errMisplaced", laid_loop_example_g01181_impl_errMisplaced)] }
def FnExactLoadRecordSaid : Prop := fnExactLoadRecordRow.holds Tryd.pinned (OpenSpec.ofChange fnExactLoadRecordSpec)

/-- ITS FALSE NEIGHBOUR: 'it returns false'. Refute it at one input. -/
def fnExactLoadRecordWrong : ChangeSpec := { name := "fnExactLoadRecord", vars := ["loop.example/g01181/impl.errEnd", "loop.example/g01181/impl.errMisplaced", "loop.example/g01181/impl.errNoRecord", "loop.example/g01181/impl.errCut", "loop.example/g01181/impl.errNoFrame"], fn := fun _ => fun
  | [d, g1, g2, g3, g4, g5] => { results := [.lit (.bool false)], args := [d], vars := [g1, g2, g3, g4, g5] }
  | _ => none }
def FnExactLoadRecordWrongFalsely : Prop := fnExactLoadRecordRow.holds Tryd.pinned (OpenSpec.ofChange fnExactLoadRecordWrong)

/-- 'laws.FnExactRecoverRecord': WHATEVER THE INPUT: true; the input reads as it did. -/
def fnExactRecoverRecordSpec : ChangeSpec := { name := "fnExactRecoverRecord", vars := ["loop.example/g01181/impl.errNoRecord", "loop.example/g01181/impl.errMisplaced", "loop.example/g01181/impl.errEnd", "loop.example/g01181/impl.errCut", "loop.example/g01181/impl.errNoFrame"], fn := fun _ => fun
  | [d, g1, g2, g3, g4, g5] => { results := [.lit (.bool true)], args := [d], vars := [g1, g2, g3, g4, g5] }
  | _ => none }
def fnExactRecoverRecordRow : OpenClaim := { program := "ytbefoiikbbjjfaadoor", sum := "b01d718a8b62de558b339dd9d996ce92d4d0cb54a29a35f41f9687f289282d5a", func := "loop.example/g01181/laws.FnExactRecoverRecord", spec := "fnExactRecoverRecord", inPlace := ["math.Float32frombits", "math.Float32bits", "internal/reflectlite.TypeOf"], unfollowed := true, recurses := true, named := ["loop.example/g01181/impl.errNoRecord", "loop.example/g01181/impl.errMisplaced", "loop.example/g01181/impl.errEnd", "loop.example/g01181/impl.errCut", "loop.example/g01181/impl.errNoFrame"], ifaces := true, apart := false, laid := [("loop.example/g01181/impl.errNoRecord", laid_loop_example_g01181_impl_errNoRecord), ("loop.example/g01181/impl.errEnd", laid_loop_example_g01181_impl_errEnd), ("loop.example/g01181/impl.errCut", laid_loop_example_g01181_impl_errCut), ("loop.example/g01181/impl.errNoFrame", laid_loop_example_g01181_impl_errNoFrame), ("loop.example/g01181/impl.errMisplaced", laid_loop_example_g01181_impl_errMisplaced)] }
def FnExactRecoverRecordSaid : Prop := fnExactRecoverRecordRow.holds Tryd.pinned (OpenSpec.ofChange fnExactRecoverRecordSpec)

/-- ITS FALSE NEIGHBOUR: 'it returns false'. Refute it at one input. -/
def fnExactRecoverRecordWrong : ChangeSpec := { name := "fnExactRecoverRecord", vars := ["loop.example/g01181/impl.errNoRecord", "loop.example/g01181/impl.errMisplaced", "loop.example/g01181/impl.errEnd", "loop.example/g01181/impl.errCut", "loop.example/g01181/impl.errNoFrame"], fn := fun _ => fun
  | [d, g1, g2, g3, g4, g5] => { results := [.lit (.bool false)], args := [d], vars := [g1, g2, g3, g4, g5] }
  | _ => none }
def FnExactRecoverRecordWrongFalsely : Prop := fnExactRecoverRecordRow.holds Tryd.pinned (OpenSpec.ofChange fnExactRecoverRecordWrong)

/-- 'laws.FnKept': WHATEVER THE INPUT: true; the input reads as it did. -/
def fnKeptSpec : ChangeSpec := { name := "fnKept", vars := ["loop.example/g01181/impl.errEnd", "loop.example/g01181/impl.errMisplaced", "loop.example/g01181/impl.errNoRecord", "loop.example/g01181/impl.errCut", "loop.example/g01181/impl.errNoFrame"], fn := fun _ => fun
  | [d1, d2, g1, g2, g3, g4, g5] => { results := [.lit (.bool true)], args := [d1, d2], vars := [g1, g2, g3, g4, g5] }
  | _ => none }
def fnKeptRow : OpenClaim := { program := "ytbefoiikbbjjfaadoor", sum := "b01d718a8b62de558b339dd9d996ce92d4d0cb54a29a35f41f9687f289282d5a", func := "loop.example/g01181/laws.FnKept", spec := "fnKept", inPlace := ["math.Float32frombits", "math.Float32bits", "internal/reflectlite.TypeOf"], unfollowed := true, recurses := true, named := ["loop.example/g01181/impl.errEnd", "loop.example/g01181/impl.errMisplaced", "loop.example/g01181/impl.errNoRecord", "loop.example/g01181/impl.errCut", "loop.example/g01181/impl.errNoFrame"], ifaces := true, apart := false, laid := [("loop.example/g01181/impl.errNoRecord", laid_loop_example_g01181_impl_errNoRecord), ("loop.example/g01181/impl.errEnd", laid_loop_example_g01181_impl_errEnd), ("loop.example/g01181/impl.errCut", laid_loop_example_g01181_impl_errCut), ("loop.example/g01181/impl.errNoFrame", laid_loop_example_g01181_impl_errNoFrame), ("loop.example/g01181/impl.errMisplaced", laid_loop_example_g01181_impl_errMisplaced)] }
def FnKeptSaid : Prop := fnKeptRow.holds Tryd.pinned (OpenSpec.ofChange fnKeptSpec)

/-- ITS FALSE NEIGHBOUR: 'it returns false'. Refute it at one input. -/
def fnKeptWrong : ChangeSpec := { name := "fnKept", vars := ["loop.example/g01181/impl.errEnd", "loop.example/g01181/impl.errMisplaced", "loop.example/g01181/impl.errNoRecord", "loop.example/g01181/impl.errCut", "loop.example/g01181/impl.errNoFrame"], fn := fun _ => fun
  | [d1, d2, g1, g2, g3, g4, g5] => { results := [.lit (.bool false)], args := [d1, d2], vars := [g1, g2, g3, g4, g5] }
  | _ => none }
def FnKeptWrongFalsely : Prop := fnKeptRow.holds Tryd.pinned (OpenSpec.ofChange fnKeptWrong)

/- THE SECOND FORM. 'bulk': how many values and letters a reading holds, each counted each time it is reached (what is shared counts as often as it is met; a slice's spare places count too). A statement '..UptoSaid' is the law's where the arguments, and the package variables that the reading takes, are together of bulk at most 1048576: NARROWER than '..Said'. Prove '..Said' where nothing that the law and all that it calls make is longer than what came in: it says more and counts as full. Else prove '..UptoSaid'. A law counts once. -/
mutual
def uptoBulk {H : Type} : DataW H → Nat
  | .lit (.string bytes) => bytes.length + 1
  | .lit _ => 1
  | .nil => 1
  | .ptr d => uptoBulk d + 1
  | .slice elems spare => uptoBulkAll elems + uptoBulkAll spare + 1
  | .agg parts => uptoBulkAll parts + 1
  | .iface _ d => uptoBulk d + 1
  | .map entries => uptoBulkEntries entries + 1
  | .held _ => 1
def uptoBulkAll {H : Type} : List (DataW H) → Nat
  | [] => 0
  | d :: r => uptoBulk d + uptoBulkAll r
def uptoBulkEntries {H : Type} : List (Lit × DataW H) → Nat
  | [] => 0
  | x :: r => uptoBulkEntry x + uptoBulkEntries r
def uptoBulkEntry {H : Type} : Lit × DataW H → Nat
  | (.string bytes, d) => bytes.length + uptoBulk d + 1
  | (_, d) => uptoBulk d + 1
 end
def uptoSmall : (H : Type) → List (DataW H) → Bool := fun _ ds => decide (uptoBulkAll ds ≤ 1048576)
def OpenSpec.upto (s : _root_.Go.ChangeSpec) : _root_.Go.OpenSpec := { _root_.Go.OpenSpec.ofChange s with cond := some uptoSmall }

/-- 'laws.FnExactFirstDifference', WHERE WHAT IT READS IS OF BULK AT MOST 1048576: true; the input reads as it did. -/
def fnExactFirstDifferenceUptoRow : OpenClaim := { program := "ytbefoiikbbjjfaadoor", sum := "b01d718a8b62de558b339dd9d996ce92d4d0cb54a29a35f41f9687f289282d5a", func := "loop.example/g01181/laws.FnExactFirstDifference", spec := "fnExactFirstDifference", named := ["loop.example/g01181/impl.errNoRecord"], ifaces := true, apart := false, laid := [("loop.example/g01181/impl.errNoRecord", laid_loop_example_g01181_impl_errNoRecord)], narrowed := true }
def FnExactFirstDifferenceUptoSaid : Prop := fnExactFirstDifferenceUptoRow.holds Tryd.pinned (OpenSpec.upto fnExactFirstDifferenceSpec)

/-- 'laws.FnExactFrameAt', WHERE WHAT IT READS IS OF BULK AT MOST 1048576: true; the input reads as it did. -/
def fnExactFrameAtUptoRow : OpenClaim := { program := "ytbefoiikbbjjfaadoor", sum := "b01d718a8b62de558b339dd9d996ce92d4d0cb54a29a35f41f9687f289282d5a", func := "loop.example/g01181/laws.FnExactFrameAt", spec := "fnExactFrameAt", inPlace := ["math.Float32frombits", "math.Float32bits"], unfollowed := true, recurses := true, named := ["loop.example/g01181/impl.errNoRecord", "loop.example/g01181/impl.errEnd", "loop.example/g01181/impl.errCut", "loop.example/g01181/impl.errNoFrame"], ifaces := true, apart := false, laid := [("loop.example/g01181/impl.errNoRecord", laid_loop_example_g01181_impl_errNoRecord), ("loop.example/g01181/impl.errEnd", laid_loop_example_g01181_impl_errEnd), ("loop.example/g01181/impl.errCut", laid_loop_example_g01181_impl_errCut), ("loop.example/g01181/impl.errNoFrame", laid_loop_example_g01181_impl_errNoFrame)], narrowed := true }
def FnExactFrameAtUptoSaid : Prop := fnExactFrameAtUptoRow.holds Tryd.pinned (OpenSpec.upto fnExactFrameAtSpec)

/-- 'laws.FnExactLoadRecord', WHERE WHAT IT READS IS OF BULK AT MOST 1048576: true; the input reads as it did. -/
def fnExactLoadRecordUptoRow : OpenClaim := { program := "ytbefoiikbbjjfaadoor", sum := "b01d718a8b62de558b339dd9d996ce92d4d0cb54a29a35f41f9687f289282d5a", func := "loop.example/g01181/laws.FnExactLoadRecord", spec := "fnExactLoadRecord", inPlace := ["math.Float32frombits", "math.Float32bits", "internal/reflectlite.TypeOf"], unfollowed := true, recurses := true, named := ["loop.example/g01181/impl.errEnd", "loop.example/g01181/impl.errMisplaced", "loop.example/g01181/impl.errNoRecord", "loop.example/g01181/impl.errCut", "loop.example/g01181/impl.errNoFrame"], ifaces := true, apart := false, laid := [("loop.example/g01181/impl.errNoRecord", laid_loop_example_g01181_impl_errNoRecord), ("loop.example/g01181/impl.errEnd", laid_loop_example_g01181_impl_errEnd), ("loop.example/g01181/impl.errCut", laid_loop_example_g01181_impl_errCut), ("loop.example/g01181/impl.errNoFrame", laid_loop_example_g01181_impl_errNoFrame), ("loop.example/g01181/impl.errMisplaced", laid_loop_example_g01181_impl_errMisplaced)], narrowed := true }
def FnExactLoadRecordUptoSaid : Prop := fnExactLoadRecordUptoRow.holds Tryd.pinned (OpenSpec.upto fnExactLoadRecordSpec)

/-- 'laws.FnExactRecoverRecord', WHERE WHAT IT READS IS OF BULK AT MOST 1048576: true; the input reads as it did. -/
def fnExactRecoverRecordUptoRow : OpenClaim := { program := "ytbefoiikbbjjfaadoor", sum := "b01d718a8b62de558b339dd9d996ce92d4d0cb54a29a35f41f9687f289282d5a", func := "loop.example/g01181/laws.FnExactRecoverRecord", spec := "fnExactRecoverRecord", inPlace := ["math.Float32frombits", "math.Float32bits", "internal/reflectlite.TypeOf"], unfollowed := true, recurses := true, named := ["loop.example/g01181/impl.errNoRecord", "loop.example/g01181/impl.errMisplaced", "loop.example/g01181/impl.errEnd", "loop.example/g01181/impl.errCut", "loop.example/g01181/impl.errNoFrame"], ifaces := true, apart := false, laid := [("loop.example/g01181/impl.errNoRecord", laid_loop_example_g01181_impl_errNoRecord), ("loop.example/g01181/impl.errEnd", laid_loop_example_g01181_impl_errEnd), ("loop.example/g01181/impl.errCut", laid_loop_example_g01181_impl_errCut), ("loop.example/g01181/impl.errNoFrame", laid_loop_example_g01181_impl_errNoFrame), ("loop.example/g01181/impl.errMisplaced", laid_loop_example_g01181_impl_errMisplaced)], narrowed := true }
def FnExactRecoverRecordUptoSaid : Prop := fnExactRecoverRecordUptoRow.holds Tryd.pinned (OpenSpec.upto fnExactRecoverRecordSpec)

/-- 'laws.FnKept', WHERE WHAT IT READS IS OF BULK AT MOST 1048576: true; the input reads as it did. -/
def fnKeptUptoRow : OpenClaim := { program := "ytbefoiikbbjjfaadoor", sum := "b01d718a8b62de558b339dd9d996ce92d4d0cb54a29a35f41f9687f289282d5a", func := "loop.example/g01181/laws.FnKept", spec := "fnKept", inPlace := ["math.Float32frombits", "math.Float32bits", "internal/reflectlite.TypeOf"], unfollowed := true, recurses := true, named := ["loop.example/g01181/impl.errEnd", "loop.example/g01181/impl.errMisplaced", "loop.example/g01181/impl.errNoRecord", "loop.example/g01181/impl.errCut", "loop.example/g01181/impl.errNoFrame"], ifaces := true, apart := false, laid := [("loop.example/g01181/impl.errNoRecord", laid_loop_example_g01181_impl_errNoRecord), ("loop.example/g01181/impl.errEnd", laid_loop_example_g01181_impl_errEnd), ("loop.example/g01181/impl.errCut", laid_loop_example_g01181_impl_errCut), ("loop.example/g01181/impl.errNoFrame", laid_loop_example_g01181_impl_errNoFrame), ("loop.example/g01181/impl.errMisplaced", laid_loop_example_g01181_impl_errMisplaced)], narrowed := true }
def FnKeptUptoSaid : Prop := fnKeptUptoRow.holds Tryd.pinned (OpenSpec.upto fnKeptSpec)

end Rows
end Go.Proofs.YtbefoiikbbjjfaaDoor
