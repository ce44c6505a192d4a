/-
  No cell of these rows narrows 'for every input' (looked for: loops, veiled, ifaces, maps, wideKeys, modest, calm, conditions, laid).
  DERIVED. THE GIVEN ROWS OF THIS SEAT. 12 by the template 'for every input the law returns true; each argument reads behind the call as it read before'; 0 by the template 'total and deterministic' (their statements: YtkjmlpdbnnmlhabTotals.lean).
  GIVEN WITH THE SEED: the statements are not yours to turn. If you find one false, say at which input.
  Laid BY PROGRAM, IN A SANDBOX (cutbox-rows.mjs): the forced cells as the released guide's own fill.sh prints them over the translation 61715b0b03849643… (all of the seat's roots in one cut). By AI agents, Wed Nov 11 2026. No macro, syntax, notation, axiom, sorry.
-/
import Derived.Test.YtkjmlpdbnnmlhabChecked
import GoSem.Claim
import GoSem.ClaimJoined
import GoSem.ClaimMapViews
import Derived.JoinedTies
import Derived.KernelRfl
namespace Go.Proofs.Ytkjmlpdbnnmlhab
/- THE CELL 'sum', in the pinned program and in every row, IS THE sha256 OF THE DUMP (.gsa) THAT YtkjmlpdbnnmlhabProg.lean LOADS. Nothing in Lean hashes anything: it is a label: what it is worth is what the hold of that sum in a sandbox is worth. -/
noncomputable def Try.pinned : Pinned := { name := "ytkjmlpdbnnmlhab", sum := "61715b0b038496432383b46a818e02ad11262dea670b6e4383f30a1a39619e1c", checked := Try.checked }
namespace Rows
def none {H : Type} : Left H := { results := [], args := [] }

/-- 'laws.FnPlans': WHATEVER THE INPUT: true; the input reads as it did. -/
def fnPlansSpec : ChangeSpec := { name := "fnPlans", fn := fun _ => fun
  | [d1, d2] => { results := [.lit (.bool true)], args := [d1, d2] }
  | _ => none }
def fnPlansRow : OpenClaim := { program := "ytkjmlpdbnnmlhab", sum := "61715b0b038496432383b46a818e02ad11262dea670b6e4383f30a1a39619e1c", func := "loop.example/g01181/laws.FnPlans", spec := "fnPlans", unfollowed := true, recurses := true, plainKeys := false, apart := false }
def FnPlansSaid : Prop := fnPlansRow.holds Try.pinned (OpenSpec.ofChange fnPlansSpec)

/-- ITS FALSE NEIGHBOUR: 'it returns false'. Refute it at one input. -/
def fnPlansWrong : ChangeSpec := { name := "fnPlans", fn := fun _ => fun
  | [d1, d2] => { results := [.lit (.bool false)], args := [d1, d2] }
  | _ => none }
def FnPlansWrongFalsely : Prop := fnPlansRow.holds Try.pinned (OpenSpec.ofChange fnPlansWrong)

/-- 'laws.FnTours': WHATEVER THE INPUT: true; the input reads as it did. -/
def fnToursSpec : ChangeSpec := { name := "fnTours", fn := fun _ => fun
  | [d1, d2] => { results := [.lit (.bool true)], args := [d1, d2] }
  | _ => none }
def fnToursRow : OpenClaim := { program := "ytkjmlpdbnnmlhab", sum := "61715b0b038496432383b46a818e02ad11262dea670b6e4383f30a1a39619e1c", func := "loop.example/g01181/laws.FnTours", spec := "fnTours", unfollowed := true, recurses := true, plainKeys := false, apart := false }
def FnToursSaid : Prop := fnToursRow.holds Try.pinned (OpenSpec.ofChange fnToursSpec)

/-- ITS FALSE NEIGHBOUR: 'it returns false'. Refute it at one input. -/
def fnToursWrong : ChangeSpec := { name := "fnTours", fn := fun _ => fun
  | [d1, d2] => { results := [.lit (.bool false)], args := [d1, d2] }
  | _ => none }
def FnToursWrongFalsely : Prop := fnToursRow.holds Try.pinned (OpenSpec.ofChange fnToursWrong)

/-- 'laws.FnLobes': WHATEVER THE INPUT: true; the input reads as it did. -/
def fnLobesSpec : ChangeSpec := { name := "fnLobes", fn := fun _ => fun
  | [d1, d2] => { results := [.lit (.bool true)], args := [d1, d2] }
  | _ => none }
def fnLobesRow : OpenClaim := { program := "ytkjmlpdbnnmlhab", sum := "61715b0b038496432383b46a818e02ad11262dea670b6e4383f30a1a39619e1c", func := "loop.example/g01181/laws.FnLobes", spec := "fnLobes", unfollowed := true, recurses := true, plainKeys := false, apart := false }
def FnLobesSaid : Prop := fnLobesRow.holds Try.pinned (OpenSpec.ofChange fnLobesSpec)

/-- ITS FALSE NEIGHBOUR: 'it returns false'. Refute it at one input. -/
def fnLobesWrong : ChangeSpec := { name := "fnLobes", fn := fun _ => fun
  | [d1, d2] => { results := [.lit (.bool false)], args := [d1, d2] }
  | _ => none }
def FnLobesWrongFalsely : Prop := fnLobesRow.holds Try.pinned (OpenSpec.ofChange fnLobesWrong)

/-- 'laws.FnPatterns': WHATEVER THE INPUT: true; the input reads as it did. -/
def fnPatternsSpec : ChangeSpec := { name := "fnPatterns", fn := fun _ => fun
  | [d1, d2] => { results := [.lit (.bool true)], args := [d1, d2] }
  | _ => none }
def fnPatternsRow : OpenClaim := { program := "ytkjmlpdbnnmlhab", sum := "61715b0b038496432383b46a818e02ad11262dea670b6e4383f30a1a39619e1c", func := "loop.example/g01181/laws.FnPatterns", spec := "fnPatterns", inPlace := ["math.Float64bits", "math.Float64frombits", "math.sqrt", "math.Float32bits"], unfollowed := true, recurses := true, plainKeys := false, apart := false }
def FnPatternsSaid : Prop := fnPatternsRow.holds Try.pinned (OpenSpec.ofChange fnPatternsSpec)

/-- ITS FALSE NEIGHBOUR: 'it returns false'. Refute it at one input. -/
def fnPatternsWrong : ChangeSpec := { name := "fnPatterns", fn := fun _ => fun
  | [d1, d2] => { results := [.lit (.bool false)], args := [d1, d2] }
  | _ => none }
def FnPatternsWrongFalsely : Prop := fnPatternsRow.holds Try.pinned (OpenSpec.ofChange fnPatternsWrong)

/-- 'laws.FnMatrices': WHATEVER THE INPUT: true; the input reads as it did. -/
def fnMatricesSpec : ChangeSpec := { name := "fnMatrices", fn := fun _ => fun
  | [d1, d2] => { results := [.lit (.bool true)], args := [d1, d2] }
  | _ => none }
def fnMatricesRow : OpenClaim := { program := "ytkjmlpdbnnmlhab", sum := "61715b0b038496432383b46a818e02ad11262dea670b6e4383f30a1a39619e1c", func := "loop.example/g01181/laws.FnMatrices", spec := "fnMatrices", inPlace := ["math.Float32bits"], unfollowed := true, recurses := true, plainKeys := false, apart := false }
def FnMatricesSaid : Prop := fnMatricesRow.holds Try.pinned (OpenSpec.ofChange fnMatricesSpec)

/-- ITS FALSE NEIGHBOUR: 'it returns false'. Refute it at one input. -/
def fnMatricesWrong : ChangeSpec := { name := "fnMatrices", fn := fun _ => fun
  | [d1, d2] => { results := [.lit (.bool false)], args := [d1, d2] }
  | _ => none }
def FnMatricesWrongFalsely : Prop := fnMatricesRow.holds Try.pinned (OpenSpec.ofChange fnMatricesWrong)

/-- 'laws.FnTapers': WHATEVER THE INPUT: true; the input reads as it did. -/
def fnTapersSpec : ChangeSpec := { name := "fnTapers", fn := fun _ => fun
  | [d1, d2] => { results := [.lit (.bool true)], args := [d1, d2] }
  | _ => none }
def fnTapersRow : OpenClaim := { program := "ytkjmlpdbnnmlhab", sum := "61715b0b038496432383b46a818e02ad11262dea670b6e4383f30a1a39619e1c", func := "loop.example/g01181/laws.FnTapers", spec := "fnTapers", inPlace := ["math.Float64bits", "math.Float64frombits"], unfollowed := true, recurses := true, plainKeys := false, apart := false }
def FnTapersSaid : Prop := fnTapersRow.holds Try.pinned (OpenSpec.ofChange fnTapersSpec)

/-- ITS FALSE NEIGHBOUR: 'it returns false'. Refute it at one input. -/
def fnTapersWrong : ChangeSpec := { name := "fnTapers", fn := fun _ => fun
  | [d1, d2] => { results := [.lit (.bool false)], args := [d1, d2] }
  | _ => none }
def FnTapersWrongFalsely : Prop := fnTapersRow.holds Try.pinned (OpenSpec.ofChange fnTapersWrong)

/-- 'laws.FnExactSteerWeights': WHATEVER THE INPUT: true; the input reads as it did. -/
def fnExactSteerWeightsSpec : ChangeSpec := { name := "fnExactSteerWeights", fn := fun _ => fun
  | [d1, d2, d3] => { results := [.lit (.bool true)], args := [d1, d2, d3] }
  | _ => none }
def fnExactSteerWeightsRow : OpenClaim := { program := "ytkjmlpdbnnmlhab", sum := "61715b0b038496432383b46a818e02ad11262dea670b6e4383f30a1a39619e1c", func := "loop.example/g01181/laws.FnExactSteerWeights", spec := "fnExactSteerWeights", inPlace := ["math.Float32frombits", "math.Float64frombits", "math.Float64bits"], plainKeys := false, apart := false }
def FnExactSteerWeightsSaid : Prop := fnExactSteerWeightsRow.holds Try.pinned (OpenSpec.ofChange fnExactSteerWeightsSpec)

/-- ITS FALSE NEIGHBOUR: 'it returns false'. Refute it at one input. -/
def fnExactSteerWeightsWrong : ChangeSpec := { name := "fnExactSteerWeights", fn := fun _ => fun
  | [d1, d2, d3] => { results := [.lit (.bool false)], args := [d1, d2, d3] }
  | _ => none }
def FnExactSteerWeightsWrongFalsely : Prop := fnExactSteerWeightsRow.holds Try.pinned (OpenSpec.ofChange fnExactSteerWeightsWrong)

/-- 'laws.FnBoundedSteps': WHATEVER THE INPUT: true; the input reads as it did. -/
def fnBoundedStepsSpec : ChangeSpec := { name := "fnBoundedSteps", fn := fun _ => fun
  | [d1, d2] => { results := [.lit (.bool true)], args := [d1, d2] }
  | _ => none }
def fnBoundedStepsRow : OpenClaim := { program := "ytkjmlpdbnnmlhab", sum := "61715b0b038496432383b46a818e02ad11262dea670b6e4383f30a1a39619e1c", func := "loop.example/g01181/laws.FnBoundedSteps", spec := "fnBoundedSteps", inPlace := ["math.Float64bits", "math.Float64frombits", "math.sqrt"], unfollowed := true, recurses := true, plainKeys := false, apart := false }
def FnBoundedStepsSaid : Prop := fnBoundedStepsRow.holds Try.pinned (OpenSpec.ofChange fnBoundedStepsSpec)

/-- ITS FALSE NEIGHBOUR: 'it returns false'. Refute it at one input. -/
def fnBoundedStepsWrong : ChangeSpec := { name := "fnBoundedSteps", fn := fun _ => fun
  | [d1, d2] => { results := [.lit (.bool false)], args := [d1, d2] }
  | _ => none }
def FnBoundedStepsWrongFalsely : Prop := fnBoundedStepsRow.holds Try.pinned (OpenSpec.ofChange fnBoundedStepsWrong)

/-- 'laws.FnMended': WHATEVER THE INPUT: true; the input reads as it did. -/
def fnMendedSpec : ChangeSpec := { name := "fnMended", fn := fun _ => fun
  | [d1, d2] => { results := [.lit (.bool true)], args := [d1, d2] }
  | _ => none }
def fnMendedRow : OpenClaim := { program := "ytkjmlpdbnnmlhab", sum := "61715b0b038496432383b46a818e02ad11262dea670b6e4383f30a1a39619e1c", func := "loop.example/g01181/laws.FnMended", spec := "fnMended", inPlace := ["math.Float64bits", "math.Float64frombits", "math.Float32frombits", "math.sqrt"], unfollowed := true, recurses := true, plainKeys := false, apart := false }
def FnMendedSaid : Prop := fnMendedRow.holds Try.pinned (OpenSpec.ofChange fnMendedSpec)

/-- ITS FALSE NEIGHBOUR: 'it returns false'. Refute it at one input. -/
def fnMendedWrong : ChangeSpec := { name := "fnMended", fn := fun _ => fun
  | [d1, d2] => { results := [.lit (.bool false)], args := [d1, d2] }
  | _ => none }
def FnMendedWrongFalsely : Prop := fnMendedRow.holds Try.pinned (OpenSpec.ofChange fnMendedWrong)

/-- 'laws.FnCalibrated': WHATEVER THE INPUT: true; the input reads as it did. -/
def fnCalibratedSpec : ChangeSpec := { name := "fnCalibrated", fn := fun _ => fun
  | [d1, d2] => { results := [.lit (.bool true)], args := [d1, d2] }
  | _ => none }
def fnCalibratedRow : OpenClaim := { program := "ytkjmlpdbnnmlhab", sum := "61715b0b038496432383b46a818e02ad11262dea670b6e4383f30a1a39619e1c", func := "loop.example/g01181/laws.FnCalibrated", spec := "fnCalibrated", inPlace := ["math.Float64bits", "math.Float64frombits", "math.sqrt"], plainKeys := false, apart := false }
def FnCalibratedSaid : Prop := fnCalibratedRow.holds Try.pinned (OpenSpec.ofChange fnCalibratedSpec)

/-- ITS FALSE NEIGHBOUR: 'it returns false'. Refute it at one input. -/
def fnCalibratedWrong : ChangeSpec := { name := "fnCalibrated", fn := fun _ => fun
  | [d1, d2] => { results := [.lit (.bool false)], args := [d1, d2] }
  | _ => none }
def FnCalibratedWrongFalsely : Prop := fnCalibratedRow.holds Try.pinned (OpenSpec.ofChange fnCalibratedWrong)

/-- 'laws.FnFound': WHATEVER THE INPUT: true; the input reads as it did. -/
def fnFoundSpec : ChangeSpec := { name := "fnFound", fn := fun _ => fun
  | [d1, d2] => { results := [.lit (.bool true)], args := [d1, d2] }
  | _ => none }
def fnFoundRow : OpenClaim := { program := "ytkjmlpdbnnmlhab", sum := "61715b0b038496432383b46a818e02ad11262dea670b6e4383f30a1a39619e1c", func := "loop.example/g01181/laws.FnFound", spec := "fnFound", inPlace := ["math.Float32frombits", "math.Float64frombits", "math.Float64bits", "math.sqrt", "math.RoundToEven", "math.Float32bits"], unfollowed := true, recurses := true, plainKeys := false, apart := false }
def FnFoundSaid : Prop := fnFoundRow.holds Try.pinned (OpenSpec.ofChange fnFoundSpec)

/-- ITS FALSE NEIGHBOUR: 'it returns false'. Refute it at one input. -/
def fnFoundWrong : ChangeSpec := { name := "fnFound", fn := fun _ => fun
  | [d1, d2] => { results := [.lit (.bool false)], args := [d1, d2] }
  | _ => none }
def FnFoundWrongFalsely : Prop := fnFoundRow.holds Try.pinned (OpenSpec.ofChange fnFoundWrong)

/-- 'laws.FnNulls': WHATEVER THE INPUT: true; the input reads as it did. -/
def fnNullsSpec : ChangeSpec := { name := "fnNulls", fn := fun _ => fun
  | [d1, d2] => { results := [.lit (.bool true)], args := [d1, d2] }
  | _ => none }
def fnNullsRow : OpenClaim := { program := "ytkjmlpdbnnmlhab", sum := "61715b0b038496432383b46a818e02ad11262dea670b6e4383f30a1a39619e1c", func := "loop.example/g01181/laws.FnNulls", spec := "fnNulls", inPlace := ["math.Float64bits", "math.Float64frombits", "math.sqrt"], unfollowed := true, recurses := true, plainKeys := false, apart := false }
def FnNullsSaid : Prop := fnNullsRow.holds Try.pinned (OpenSpec.ofChange fnNullsSpec)

/-- ITS FALSE NEIGHBOUR: 'it returns false'. Refute it at one input. -/
def fnNullsWrong : ChangeSpec := { name := "fnNulls", fn := fun _ => fun
  | [d1, d2] => { results := [.lit (.bool false)], args := [d1, d2] }
  | _ => none }
def FnNullsWrongFalsely : Prop := fnNullsRow.holds Try.pinned (OpenSpec.ofChange fnNullsWrong)

/- THE SECOND FORM. 'bulk': how many values and letters a reading holds, each counted each time it is reached (what is shared counts as often as it is met; a slice's spare places count too). A statement '..UptoSaid' is the law's where the arguments, and the package variables that the reading takes, are together of bulk at most 1048576: NARROWER than '..Said'. Prove '..Said' where nothing that the law and all that it calls make is longer than what came in: it says more and counts as full. Else prove '..UptoSaid'. A law counts once. -/
mutual
def uptoBulk {H : Type} : DataW H → Nat
  | .lit (.string bytes) => bytes.length + 1
  | .lit _ => 1
  | .nil => 1
  | .ptr d => uptoBulk d + 1
  | .slice elems spare => uptoBulkAll elems + uptoBulkAll spare + 1
  | .agg parts => uptoBulkAll parts + 1
  | .iface _ d => uptoBulk d + 1
  | .map entries => uptoBulkEntries entries + 1
  | .held _ => 1
def uptoBulkAll {H : Type} : List (DataW H) → Nat
  | [] => 0
  | d :: r => uptoBulk d + uptoBulkAll r
def uptoBulkEntries {H : Type} : List (Lit × DataW H) → Nat
  | [] => 0
  | x :: r => uptoBulkEntry x + uptoBulkEntries r
def uptoBulkEntry {H : Type} : Lit × DataW H → Nat
  | (.string bytes, d) => bytes.length + uptoBulk d + 1
  | (_, d) => uptoBulk d + 1
 end
def uptoSmall : (H : Type) → List (DataW H) → Bool := fun _ ds => decide (uptoBulkAll ds ≤ 1048576)
def OpenSpec.upto (s : _root_.Go.ChangeSpec) : _root_.Go.OpenSpec := { _root_.Go.OpenSpec.ofChange s with cond := some uptoSmall }

/-- 'laws.FnPlans', WHERE WHAT IT READS IS OF BULK AT MOST 1048576: true; the input reads as it did. -/
def fnPlansUptoRow : OpenClaim := { program := "ytkjmlpdbnnmlhab", sum := "61715b0b038496432383b46a818e02ad11262dea670b6e4383f30a1a39619e1c", func := "loop.example/g01181/laws.FnPlans", spec := "fnPlans", unfollowed := true, recurses := true, plainKeys := false, apart := false, narrowed := true }
def FnPlansUptoSaid : Prop := fnPlansUptoRow.holds Try.pinned (OpenSpec.upto fnPlansSpec)

/-- 'laws.FnTours', WHERE WHAT IT READS IS OF BULK AT MOST 1048576: true; the input reads as it did. -/
def fnToursUptoRow : OpenClaim := { program := "ytkjmlpdbnnmlhab", sum := "61715b0b038496432383b46a818e02ad11262dea670b6e4383f30a1a39619e1c", func := "loop.example/g01181/laws.FnTours", spec := "fnTours", unfollowed := true, recurses := true, plainKeys := false, apart := false, narrowed := true }
def FnToursUptoSaid : Prop := fnToursUptoRow.holds Try.pinned (OpenSpec.upto fnToursSpec)

/-- 'laws.FnLobes', WHERE WHAT IT READS IS OF BULK AT MOST 1048576: true; the input reads as it did. -/
def fnLobesUptoRow : OpenClaim := { program := "ytkjmlpdbnnmlhab", sum := "61715b0b038496432383b46a818e02ad11262dea670b6e4383f30a1a39619e1c", func := "loop.example/g01181/laws.FnLobes", spec := "fnLobes", unfollowed := true, recurses := true, plainKeys := false, apart := false, narrowed := true }
def FnLobesUptoSaid : Prop := fnLobesUptoRow.holds Try.pinned (OpenSpec.upto fnLobesSpec)

/-- 'laws.FnPatterns', WHERE WHAT IT READS IS OF BULK AT MOST 1048576: true; the input reads as it did. -/
def fnPatternsUptoRow : OpenClaim := { program := "ytkjmlpdbnnmlhab", sum := "61715b0b038496432383b46a818e02ad11262dea670b6e4383f30a1a39619e1c", func := "loop.example/g01181/laws.FnPatterns", spec := "fnPatterns", inPlace := ["math.Float64bits", "math.Float64frombits", "math.sqrt", "math.Float32bits"], unfollowed := true, recurses := true, plainKeys := false, apart := false, narrowed := true }
def FnPatternsUptoSaid : Prop := fnPatternsUptoRow.holds Try.pinned (OpenSpec.upto fnPatternsSpec)

/-- 'laws.FnMatrices', WHERE WHAT IT READS IS OF BULK AT MOST 1048576: true; the input reads as it did. -/
def fnMatricesUptoRow : OpenClaim := { program := "ytkjmlpdbnnmlhab", sum := "61715b0b038496432383b46a818e02ad11262dea670b6e4383f30a1a39619e1c", func := "loop.example/g01181/laws.FnMatrices", spec := "fnMatrices", inPlace := ["math.Float32bits"], unfollowed := true, recurses := true, plainKeys := false, apart := false, narrowed := true }
def FnMatricesUptoSaid : Prop := fnMatricesUptoRow.holds Try.pinned (OpenSpec.upto fnMatricesSpec)

/-- 'laws.FnTapers', WHERE WHAT IT READS IS OF BULK AT MOST 1048576: true; the input reads as it did. -/
def fnTapersUptoRow : OpenClaim := { program := "ytkjmlpdbnnmlhab", sum := "61715b0b038496432383b46a818e02ad11262dea670b6e4383f30a1a39619e1c", func := "loop.example/g01181/laws.FnTapers", spec := "fnTapers", inPlace := ["math.Float64bits", "math.Float64frombits"], unfollowed := true, recurses := true, plainKeys := false, apart := false, narrowed := true }
def FnTapersUptoSaid : Prop := fnTapersUptoRow.holds Try.pinned (OpenSpec.upto fnTapersSpec)

/-- 'laws.FnExactSteerWeights', WHERE WHAT IT READS IS OF BULK AT MOST 1048576: true; the input reads as it did. -/
def fnExactSteerWeightsUptoRow : OpenClaim := { program := "ytkjmlpdbnnmlhab", sum := "61715b0b038496432383b46a818e02ad11262dea670b6e4383f30a1a39619e1c", func := "loop.example/g01181/laws.FnExactSteerWeights", spec := "fnExactSteerWeights", inPlace := ["math.Float32frombits", "math.Float64frombits", "math.Float64bits"], plainKeys := false, apart := false, narrowed := true }
def FnExactSteerWeightsUptoSaid : Prop := fnExactSteerWeightsUptoRow.holds Try.pinned (OpenSpec.upto fnExactSteerWeightsSpec)

/-- 'laws.FnBoundedSteps', WHERE WHAT IT READS IS OF BULK AT MOST 1048576: true; the input reads as it did. -/
def fnBoundedStepsUptoRow : OpenClaim := { program := "ytkjmlpdbnnmlhab", sum := "61715b0b038496432383b46a818e02ad11262dea670b6e4383f30a1a39619e1c", func := "loop.example/g01181/laws.FnBoundedSteps", spec := "fnBoundedSteps", inPlace := ["math.Float64bits", "math.Float64frombits", "math.sqrt"], unfollowed := true, recurses := true, plainKeys := false, apart := false, narrowed := true }
def FnBoundedStepsUptoSaid : Prop := fnBoundedStepsUptoRow.holds Try.pinned (OpenSpec.upto fnBoundedStepsSpec)

/-- 'laws.FnMended', WHERE WHAT IT READS IS OF BULK AT MOST 1048576: true; the input reads as it did. -/
def fnMendedUptoRow : OpenClaim := { program := "ytkjmlpdbnnmlhab", sum := "61715b0b038496432383b46a818e02ad11262dea670b6e4383f30a1a39619e1c", func := "loop.example/g01181/laws.FnMended", spec := "fnMended", inPlace := ["math.Float64bits", "math.Float64frombits", "math.Float32frombits", "math.sqrt"], unfollowed := true, recurses := true, plainKeys := false, apart := false, narrowed := true }
def FnMendedUptoSaid : Prop := fnMendedUptoRow.holds Try.pinned (OpenSpec.upto fnMendedSpec)

/-- 'laws.FnCalibrated', WHERE WHAT IT READS IS OF BULK AT MOST 1048576: true; the input reads as it did. -/
def fnCalibratedUptoRow : OpenClaim := { program := "ytkjmlpdbnnmlhab", sum := "61715b0b038496432383b46a818e02ad11262dea670b6e4383f30a1a39619e1c", func := "loop.example/g01181/laws.FnCalibrated", spec := "fnCalibrated", inPlace := ["math.Float64bits", "math.Float64frombits", "math.sqrt"], plainKeys := false, apart := false, narrowed := true }
def FnCalibratedUptoSaid : Prop := fnCalibratedUptoRow.holds Try.pinned (OpenSpec.upto fnCalibratedSpec)

/-- 'laws.FnFound', WHERE WHAT IT READS IS OF BULK AT MOST 1048576: true; the input reads as it did. -/
def fnFoundUptoRow : OpenClaim := { program := "ytkjmlpdbnnmlhab", sum := "61715b0b038496432383b46a818e02ad11262dea670b6e4383f30a1a39619e1c", func := "loop.example/g01181/laws.FnFound", spec := "fnFound", inPlace := ["math.Float32frombits", "math.Float64frombits", "math.Float64bits", "math.sqrt", "math.RoundToEven", "math.Float32bits"], unfollowed := true, recurses := true, plainKeys := false, apart := false, narrowed := true }
def FnFoundUptoSaid : Prop := fnFoundUptoRow.holds Try.pinned (OpenSpec.upto fnFoundSpec)

/-- 'laws.FnNulls', WHERE WHAT IT READS IS OF BULK AT MOST 1048576: true; the input reads as it did. -/
def fnNullsUptoRow : OpenClaim := { program := "ytkjmlpdbnnmlhab", sum := "61715b0b038496432383b46a818e02ad11262dea670b6e4383f30a1a39619e1c", func := "loop.example/g01181/laws.FnNulls", spec := "fnNulls", inPlace := ["math.Float64bits", "math.Float64frombits", "math.sqrt"], unfollowed := true, recurses := true, plainKeys := false, apart := false, narrowed := true }
def FnNullsUptoSaid : Prop := fnNullsUptoRow.holds Try.pinned (OpenSpec.upto fnNullsSpec)

end Rows
end Go.Proofs.Ytkjmlpdbnnmlhab
