/-
  No cell of these rows narrows 'for every input' (looked for: loops, veiled, ifaces, maps, wideKeys, modest, calm, conditions, laid).
  DERIVED. THE GIVEN ROWS OF THIS SEAT. 7 by the template 'for every input the law returns true; each argument reads behind the call as it read before'; 0 by the template 'total and deterministic' (their statements: YtbefoiikbbjjfaaTotals.lean).
  GIVEN WITH THE SEED: the statements are not yours to turn. If you find one false, say at which input.
  Laid BY PROGRAM, IN A SANDBOX (cutbox-rows.mjs): the forced cells as the released guide's own fill.sh prints them over the translation e8121ab97b176312… (all of the seat's roots in one cut). By AI agents, Wed Nov 11 2026. No macro, syntax, notation, axiom, sorry.
-/
import Derived.Test.YtbefoiikbbjjfaaChecked
import GoSem.Claim
import GoSem.ClaimJoined
import GoSem.ClaimMapViews
import Derived.JoinedTies
import Derived.KernelRfl
namespace Go.Proofs.Ytbefoiikbbjjfaa
/- THE CELL 'sum', in the pinned program and in every row, IS THE sha256 OF THE DUMP (.gsa) THAT YtbefoiikbbjjfaaProg.lean LOADS. Nothing in Lean hashes anything: it is a label: what it is worth is what the hold of that sum in a sandbox is worth. -/
noncomputable def Try.pinned : Pinned := { name := "ytbefoiikbbjjfaa", sum := "e8121ab97b176312f1e8015f24baf234e146f300d41673cf4e698a23b1e43658", checked := Try.checked }
namespace Rows
def none {H : Type} : Left H := { results := [], args := [] }

/-- 'laws.FnExactFrameSize': WHATEVER THE INPUT: true; the input reads as it did. -/
def fnExactFrameSizeSpec : ChangeSpec := { name := "fnExactFrameSize", fn := fun _ => fun
  | [d] => { results := [.lit (.bool true)], args := [d] }
  | _ => none }
def fnExactFrameSizeRow : OpenClaim := { program := "ytbefoiikbbjjfaa", sum := "e8121ab97b176312f1e8015f24baf234e146f300d41673cf4e698a23b1e43658", func := "loop.example/g01181/laws.FnExactFrameSize", spec := "fnExactFrameSize", plainKeys := false, apart := false }
def FnExactFrameSizeSaid : Prop := fnExactFrameSizeRow.holds Try.pinned (OpenSpec.ofChange fnExactFrameSizeSpec)

/-- ITS FALSE NEIGHBOUR: 'it returns false'. Refute it at one input. -/
def fnExactFrameSizeWrong : ChangeSpec := { name := "fnExactFrameSize", fn := fun _ => fun
  | [d] => { results := [.lit (.bool false)], args := [d] }
  | _ => none }
def FnExactFrameSizeWrongFalsely : Prop := fnExactFrameSizeRow.holds Try.pinned (OpenSpec.ofChange fnExactFrameSizeWrong)

/-- 'laws.FnMerged': WHATEVER THE INPUT: true; the input reads as it did. -/
def fnMergedSpec : ChangeSpec := { name := "fnMerged", fn := fun _ => fun
  | [d1, d2] => { results := [.lit (.bool true)], args := [d1, d2] }
  | _ => none }
def fnMergedRow : OpenClaim := { program := "ytbefoiikbbjjfaa", sum := "e8121ab97b176312f1e8015f24baf234e146f300d41673cf4e698a23b1e43658", func := "loop.example/g01181/laws.FnMerged", spec := "fnMerged", inPlace := ["math.Float32frombits", "math.Float32bits"], unfollowed := true, recurses := true, plainKeys := false, apart := false }
def FnMergedSaid : Prop := fnMergedRow.holds Try.pinned (OpenSpec.ofChange fnMergedSpec)

/-- ITS FALSE NEIGHBOUR: 'it returns false'. Refute it at one input. -/
def fnMergedWrong : ChangeSpec := { name := "fnMerged", fn := fun _ => fun
  | [d1, d2] => { results := [.lit (.bool false)], args := [d1, d2] }
  | _ => none }
def FnMergedWrongFalsely : Prop := fnMergedRow.holds Try.pinned (OpenSpec.ofChange fnMergedWrong)

/-- 'laws.FnPlans': WHATEVER THE INPUT: true; the input reads as it did. -/
def fnPlansSpec : ChangeSpec := { name := "fnPlans", fn := fun _ => fun
  | [d1, d2] => { results := [.lit (.bool true)], args := [d1, d2] }
  | _ => none }
def fnPlansRow : OpenClaim := { program := "ytbefoiikbbjjfaa", sum := "e8121ab97b176312f1e8015f24baf234e146f300d41673cf4e698a23b1e43658", func := "loop.example/g01181/laws.FnPlans", spec := "fnPlans", unfollowed := true, recurses := true, plainKeys := false, apart := false }
def FnPlansSaid : Prop := fnPlansRow.holds Try.pinned (OpenSpec.ofChange fnPlansSpec)

/-- ITS FALSE NEIGHBOUR: 'it returns false'. Refute it at one input. -/
def fnPlansWrong : ChangeSpec := { name := "fnPlans", fn := fun _ => fun
  | [d1, d2] => { results := [.lit (.bool false)], args := [d1, d2] }
  | _ => none }
def FnPlansWrongFalsely : Prop := fnPlansRow.holds Try.pinned (OpenSpec.ofChange fnPlansWrong)

/-- 'laws.FnNulls': WHATEVER THE INPUT: true; the input reads as it did. -/
def fnNullsSpec : ChangeSpec := { name := "fnNulls", fn := fun _ => fun
  | [d1, d2] => { results := [.lit (.bool true)], args := [d1, d2] }
  | _ => none }
def fnNullsRow : OpenClaim := { program := "ytbefoiikbbjjfaa", sum := "e8121ab97b176312f1e8015f24baf234e146f300d41673cf4e698a23b1e43658", func := "loop.example/g01181/laws.FnNulls", spec := "fnNulls", inPlace := ["math.Float64bits", "math.Float64frombits", "math.sqrt"], unfollowed := true, recurses := true, plainKeys := false, apart := false }
def FnNullsSaid : Prop := fnNullsRow.holds Try.pinned (OpenSpec.ofChange fnNullsSpec)

/-- ITS FALSE NEIGHBOUR: 'it returns false'. Refute it at one input. -/
def fnNullsWrong : ChangeSpec := { name := "fnNulls", fn := fun _ => fun
  | [d1, d2] => { results := [.lit (.bool false)], args := [d1, d2] }
  | _ => none }
def FnNullsWrongFalsely : Prop := fnNullsRow.holds Try.pinned (OpenSpec.ofChange fnNullsWrong)

/-- 'laws.FnPatterns': WHATEVER THE INPUT: true; the input reads as it did. -/
def fnPatternsSpec : ChangeSpec := { name := "fnPatterns", fn := fun _ => fun
  | [d1, d2] => { results := [.lit (.bool true)], args := [d1, d2] }
  | _ => none }
def fnPatternsRow : OpenClaim := { program := "ytbefoiikbbjjfaa", sum := "e8121ab97b176312f1e8015f24baf234e146f300d41673cf4e698a23b1e43658", func := "loop.example/g01181/laws.FnPatterns", spec := "fnPatterns", inPlace := ["math.Float64bits", "math.Float64frombits", "math.sqrt", "math.Float32bits"], unfollowed := true, recurses := true, plainKeys := false, apart := false }
def FnPatternsSaid : Prop := fnPatternsRow.holds Try.pinned (OpenSpec.ofChange fnPatternsSpec)

/-- ITS FALSE NEIGHBOUR: 'it returns false'. Refute it at one input. -/
def fnPatternsWrong : ChangeSpec := { name := "fnPatterns", fn := fun _ => fun
  | [d1, d2] => { results := [.lit (.bool false)], args := [d1, d2] }
  | _ => none }
def FnPatternsWrongFalsely : Prop := fnPatternsRow.holds Try.pinned (OpenSpec.ofChange fnPatternsWrong)

/-- 'laws.FnMatrices': WHATEVER THE INPUT: true; the input reads as it did. -/
def fnMatricesSpec : ChangeSpec := { name := "fnMatrices", fn := fun _ => fun
  | [d1, d2] => { results := [.lit (.bool true)], args := [d1, d2] }
  | _ => none }
def fnMatricesRow : OpenClaim := { program := "ytbefoiikbbjjfaa", sum := "e8121ab97b176312f1e8015f24baf234e146f300d41673cf4e698a23b1e43658", func := "loop.example/g01181/laws.FnMatrices", spec := "fnMatrices", inPlace := ["math.Float32bits"], unfollowed := true, recurses := true, plainKeys := false, apart := false }
def FnMatricesSaid : Prop := fnMatricesRow.holds Try.pinned (OpenSpec.ofChange fnMatricesSpec)

/-- ITS FALSE NEIGHBOUR: 'it returns false'. Refute it at one input. -/
def fnMatricesWrong : ChangeSpec := { name := "fnMatrices", fn := fun _ => fun
  | [d1, d2] => { results := [.lit (.bool false)], args := [d1, d2] }
  | _ => none }
def FnMatricesWrongFalsely : Prop := fnMatricesRow.holds Try.pinned (OpenSpec.ofChange fnMatricesWrong)

/-- 'laws.FnExactStrongLobes': WHATEVER THE INPUT: true; the input reads as it did. -/
def fnExactStrongLobesSpec : ChangeSpec := { name := "fnExactStrongLobes", fn := fun _ => fun
  | [d1, d2] => { results := [.lit (.bool true)], args := [d1, d2] }
  | _ => none }
def fnExactStrongLobesRow : OpenClaim := { program := "ytbefoiikbbjjfaa", sum := "e8121ab97b176312f1e8015f24baf234e146f300d41673cf4e698a23b1e43658", func := "loop.example/g01181/laws.FnExactStrongLobes", spec := "fnExactStrongLobes", unfollowed := true, recurses := true, plainKeys := false, apart := false }
def FnExactStrongLobesSaid : Prop := fnExactStrongLobesRow.holds Try.pinned (OpenSpec.ofChange fnExactStrongLobesSpec)

/-- ITS FALSE NEIGHBOUR: 'it returns false'. Refute it at one input. -/
def fnExactStrongLobesWrong : ChangeSpec := { name := "fnExactStrongLobes", fn := fun _ => fun
  | [d1, d2] => { results := [.lit (.bool false)], args := [d1, d2] }
  | _ => none }
def FnExactStrongLobesWrongFalsely : Prop := fnExactStrongLobesRow.holds Try.pinned (OpenSpec.ofChange fnExactStrongLobesWrong)

/- THE SECOND FORM. 'bulk': how many values and letters a reading holds, each counted each time it is reached (what is shared counts as often as it is met; a slice's spare places count too). A statement '..UptoSaid' is the law's where the arguments, and the package variables that the reading takes, are together of bulk at most 1048576: NARROWER than '..Said'. Prove '..Said' where nothing that the law and all that it calls make is longer than what came in: it says more and counts as full. Else prove '..UptoSaid'. A law counts once. -/
mutual
def uptoBulk {H : Type} : DataW H → Nat
  | .lit (.string bytes) => bytes.length + 1
  | .lit _ => 1
  | .nil => 1
  | .ptr d => uptoBulk d + 1
  | .slice elems spare => uptoBulkAll elems + uptoBulkAll spare + 1
  | .agg parts => uptoBulkAll parts + 1
  | .iface _ d => uptoBulk d + 1
  | .map entries => uptoBulkEntries entries + 1
  | .held _ => 1
def uptoBulkAll {H : Type} : List (DataW H) → Nat
  | [] => 0
  | d :: r => uptoBulk d + uptoBulkAll r
def uptoBulkEntries {H : Type} : List (Lit × DataW H) → Nat
  | [] => 0
  | x :: r => uptoBulkEntry x + uptoBulkEntries r
def uptoBulkEntry {H : Type} : Lit × DataW H → Nat
  | (.string bytes, d) => bytes.length + uptoBulk d + 1
  | (_, d) => uptoBulk d + 1
 end
def uptoSmall : (H : Type) → List (DataW H) → Bool := fun _ ds => decide (uptoBulkAll ds ≤ 1048576)
def OpenSpec.upto (s : _root_.Go.ChangeSpec) : _root_.Go.OpenSpec := { _root_.Go.OpenSpec.ofChange s with cond := some uptoSmall }

/-- 'laws.FnExactFrameSize', WHERE WHAT IT READS IS OF BULK AT MOST 1048576: true; the input reads as it did. -/
def fnExactFrameSizeUptoRow : OpenClaim := { program := "ytbefoiikbbjjfaa", sum := "e8121ab97b176312f1e8015f24baf234e146f300d41673cf4e698a23b1e43658", func := "loop.example/g01181/laws.FnExactFrameSize", spec := "fnExactFrameSize", plainKeys := false, apart := false, narrowed := true }
def FnExactFrameSizeUptoSaid : Prop := fnExactFrameSizeUptoRow.holds Try.pinned (OpenSpec.upto fnExactFrameSizeSpec)

/-- 'laws.FnMerged', WHERE WHAT IT READS IS OF BULK AT MOST 1048576: true; the input reads as it did. -/
def fnMergedUptoRow : OpenClaim := { program := "ytbefoiikbbjjfaa", sum := "e8121ab97b176312f1e8015f24baf234e146f300d41673cf4e698a23b1e43658", func := "loop.example/g01181/laws.FnMerged", spec := "fnMerged", inPlace := ["math.Float32frombits", "math.Float32bits"], unfollowed := true, recurses := true, plainKeys := false, apart := false, narrowed := true }
def FnMergedUptoSaid : Prop := fnMergedUptoRow.holds Try.pinned (OpenSpec.upto fnMergedSpec)

/-- 'laws.FnPlans', WHERE WHAT IT READS IS OF BULK AT MOST 1048576: true; the input reads as it did. -/
def fnPlansUptoRow : OpenClaim := { program := "ytbefoiikbbjjfaa", sum := "e8121ab97b176312f1e8015f24baf234e146f300d41673cf4e698a23b1e43658", func := "loop.example/g01181/laws.FnPlans", spec := "fnPlans", unfollowed := true, recurses := true, plainKeys := false, apart := false, narrowed := true }
def FnPlansUptoSaid : Prop := fnPlansUptoRow.holds Try.pinned (OpenSpec.upto fnPlansSpec)

/-- 'laws.FnNulls', WHERE WHAT IT READS IS OF BULK AT MOST 1048576: true; the input reads as it did. -/
def fnNullsUptoRow : OpenClaim := { program := "ytbefoiikbbjjfaa", sum := "e8121ab97b176312f1e8015f24baf234e146f300d41673cf4e698a23b1e43658", func := "loop.example/g01181/laws.FnNulls", spec := "fnNulls", inPlace := ["math.Float64bits", "math.Float64frombits", "math.sqrt"], unfollowed := true, recurses := true, plainKeys := false, apart := false, narrowed := true }
def FnNullsUptoSaid : Prop := fnNullsUptoRow.holds Try.pinned (OpenSpec.upto fnNullsSpec)

/-- 'laws.FnPatterns', WHERE WHAT IT READS IS OF BULK AT MOST 1048576: true; the input reads as it did. -/
def fnPatternsUptoRow : OpenClaim := { program := "ytbefoiikbbjjfaa", sum := "e8121ab97b176312f1e8015f24baf234e146f300d41673cf4e698a23b1e43658", func := "loop.example/g01181/laws.FnPatterns", spec := "fnPatterns", inPlace := ["math.Float64bits", "math.Float64frombits", "math.sqrt", "math.Float32bits"], unfollowed := true, recurses := true, plainKeys := false, apart := false, narrowed := true }
def FnPatternsUptoSaid : Prop := fnPatternsUptoRow.holds Try.pinned (OpenSpec.upto fnPatternsSpec)

/-- 'laws.FnMatrices', WHERE WHAT IT READS IS OF BULK AT MOST 1048576: true; the input reads as it did. -/
def fnMatricesUptoRow : OpenClaim := { program := "ytbefoiikbbjjfaa", sum := "e8121ab97b176312f1e8015f24baf234e146f300d41673cf4e698a23b1e43658", func := "loop.example/g01181/laws.FnMatrices", spec := "fnMatrices", inPlace := ["math.Float32bits"], unfollowed := true, recurses := true, plainKeys := false, apart := false, narrowed := true }
def FnMatricesUptoSaid : Prop := fnMatricesUptoRow.holds Try.pinned (OpenSpec.upto fnMatricesSpec)

/-- 'laws.FnExactStrongLobes', WHERE WHAT IT READS IS OF BULK AT MOST 1048576: true; the input reads as it did. -/
def fnExactStrongLobesUptoRow : OpenClaim := { program := "ytbefoiikbbjjfaa", sum := "e8121ab97b176312f1e8015f24baf234e146f300d41673cf4e698a23b1e43658", func := "loop.example/g01181/laws.FnExactStrongLobes", spec := "fnExactStrongLobes", unfollowed := true, recurses := true, plainKeys := false, apart := false, narrowed := true }
def FnExactStrongLobesUptoSaid : Prop := fnExactStrongLobesUptoRow.holds Try.pinned (OpenSpec.upto fnExactStrongLobesSpec)

end Rows
end Go.Proofs.Ytbefoiikbbjjfaa
