/-
  No cell of these rows narrows 'for every input' (looked for: loops, veiled, ifaces, maps, wideKeys, modest, calm, conditions, laid).
  DERIVED. THE GIVEN ROWS OF THIS SEAT. 12 by the template 'for every input the law returns true; each argument reads behind the call as it read before'; 0 by the template 'total and deterministic' (their statements: YtpeclgfopincbaaTotals.lean).
  GIVEN WITH THE SEED: the statements are not yours to turn. If you find one false, say at which input.
  Laid BY PROGRAM, IN A SANDBOX (cutbox-rows.mjs): the forced cells as the released guide's own fill.sh prints them over the translation 7fcb451dfb8c814a… (all of the seat's roots in one cut). By AI agents, Wed Nov 11 2026. No macro, syntax, notation, axiom, sorry.
-/
import Derived.Test.YtpeclgfopincbaaChecked
import GoSem.Claim
import GoSem.ClaimJoined
import GoSem.ClaimMapViews
import Derived.JoinedTies
import Derived.KernelRfl
namespace Go.Proofs.Ytpeclgfopincbaa
/- THE CELL 'sum', in the pinned program and in every row, IS THE sha256 OF THE DUMP (.gsa) THAT YtpeclgfopincbaaProg.lean LOADS. Nothing in Lean hashes anything: it is a label: what it is worth is what the hold of that sum in a sandbox is worth. -/
noncomputable def Try.pinned : Pinned := { name := "ytpeclgfopincbaa", sum := "7fcb451dfb8c814adf8ab0409bcb03b8760e9fd215f6e7356e74c32a377f30ac", checked := Try.checked }
namespace Rows
def none {H : Type} : Left H := { results := [], args := [] }

/-- 'laws.FnSky': WHATEVER THE INPUT: true; the input reads as it did. -/
def fnSkySpec : ChangeSpec := { name := "fnSky", fn := fun _ => fun
  | [d1, d2] => { results := [.lit (.bool true)], args := [d1, d2] }
  | _ => none }
def fnSkyRow : OpenClaim := { program := "ytpeclgfopincbaa", sum := "7fcb451dfb8c814adf8ab0409bcb03b8760e9fd215f6e7356e74c32a377f30ac", func := "loop.example/g01181/laws.FnSky", spec := "fnSky", inPlace := ["math.Float64bits", "math.Float64frombits", "math.Float32bits"], unfollowed := true, recurses := true, plainKeys := false, apart := false }
def FnSkySaid : Prop := fnSkyRow.holds Try.pinned (OpenSpec.ofChange fnSkySpec)

/-- ITS FALSE NEIGHBOUR: 'it returns false'. Refute it at one input. -/
def fnSkyWrong : ChangeSpec := { name := "fnSky", fn := fun _ => fun
  | [d1, d2] => { results := [.lit (.bool false)], args := [d1, d2] }
  | _ => none }
def FnSkyWrongFalsely : Prop := fnSkyRow.holds Try.pinned (OpenSpec.ofChange fnSkyWrong)

/-- 'laws.FnCuts': WHATEVER THE INPUT: true; the input reads as it did. -/
def fnCutsSpec : ChangeSpec := { name := "fnCuts", fn := fun _ => fun
  | [d1, d2] => { results := [.lit (.bool true)], args := [d1, d2] }
  | _ => none }
def fnCutsRow : OpenClaim := { program := "ytpeclgfopincbaa", sum := "7fcb451dfb8c814adf8ab0409bcb03b8760e9fd215f6e7356e74c32a377f30ac", func := "loop.example/g01181/laws.FnCuts", spec := "fnCuts", inPlace := ["math.Float64bits", "math.Float64frombits", "math.Float32bits", "math.archFloor", "math.archTrunc"], unfollowed := true, recurses := true, plainKeys := false, apart := false }
def FnCutsSaid : Prop := fnCutsRow.holds Try.pinned (OpenSpec.ofChange fnCutsSpec)

/-- ITS FALSE NEIGHBOUR: 'it returns false'. Refute it at one input. -/
def fnCutsWrong : ChangeSpec := { name := "fnCuts", fn := fun _ => fun
  | [d1, d2] => { results := [.lit (.bool false)], args := [d1, d2] }
  | _ => none }
def FnCutsWrongFalsely : Prop := fnCutsRow.holds Try.pinned (OpenSpec.ofChange fnCutsWrong)

/-- 'laws.FnLobes': WHATEVER THE INPUT: true; the input reads as it did. -/
def fnLobesSpec : ChangeSpec := { name := "fnLobes", fn := fun _ => fun
  | [d1, d2] => { results := [.lit (.bool true)], args := [d1, d2] }
  | _ => none }
def fnLobesRow : OpenClaim := { program := "ytpeclgfopincbaa", sum := "7fcb451dfb8c814adf8ab0409bcb03b8760e9fd215f6e7356e74c32a377f30ac", func := "loop.example/g01181/laws.FnLobes", spec := "fnLobes", unfollowed := true, recurses := true, plainKeys := false, apart := false }
def FnLobesSaid : Prop := fnLobesRow.holds Try.pinned (OpenSpec.ofChange fnLobesSpec)

/-- ITS FALSE NEIGHBOUR: 'it returns false'. Refute it at one input. -/
def fnLobesWrong : ChangeSpec := { name := "fnLobes", fn := fun _ => fun
  | [d1, d2] => { results := [.lit (.bool false)], args := [d1, d2] }
  | _ => none }
def FnLobesWrongFalsely : Prop := fnLobesRow.holds Try.pinned (OpenSpec.ofChange fnLobesWrong)

/-- 'laws.FnExactCountSources': WHATEVER THE INPUT: true; the input reads as it did. -/
def fnExactCountSourcesSpec : ChangeSpec := { name := "fnExactCountSources", fn := fun _ => fun
  | [d1, d2] => { results := [.lit (.bool true)], args := [d1, d2] }
  | _ => none }
def fnExactCountSourcesRow : OpenClaim := { program := "ytpeclgfopincbaa", sum := "7fcb451dfb8c814adf8ab0409bcb03b8760e9fd215f6e7356e74c32a377f30ac", func := "loop.example/g01181/laws.FnExactCountSources", spec := "fnExactCountSources", plainKeys := false, apart := false }
def FnExactCountSourcesSaid : Prop := fnExactCountSourcesRow.holds Try.pinned (OpenSpec.ofChange fnExactCountSourcesSpec)

/-- ITS FALSE NEIGHBOUR: 'it returns false'. Refute it at one input. -/
def fnExactCountSourcesWrong : ChangeSpec := { name := "fnExactCountSources", fn := fun _ => fun
  | [d1, d2] => { results := [.lit (.bool false)], args := [d1, d2] }
  | _ => none }
def FnExactCountSourcesWrongFalsely : Prop := fnExactCountSourcesRow.holds Try.pinned (OpenSpec.ofChange fnExactCountSourcesWrong)

/-- 'laws.FnExactStrongLobes': WHATEVER THE INPUT: true; the input reads as it did. -/
def fnExactStrongLobesSpec : ChangeSpec := { name := "fnExactStrongLobes", fn := fun _ => fun
  | [d1, d2] => { results := [.lit (.bool true)], args := [d1, d2] }
  | _ => none }
def fnExactStrongLobesRow : OpenClaim := { program := "ytpeclgfopincbaa", sum := "7fcb451dfb8c814adf8ab0409bcb03b8760e9fd215f6e7356e74c32a377f30ac", func := "loop.example/g01181/laws.FnExactStrongLobes", spec := "fnExactStrongLobes", unfollowed := true, recurses := true, plainKeys := false, apart := false }
def FnExactStrongLobesSaid : Prop := fnExactStrongLobesRow.holds Try.pinned (OpenSpec.ofChange fnExactStrongLobesSpec)

/-- ITS FALSE NEIGHBOUR: 'it returns false'. Refute it at one input. -/
def fnExactStrongLobesWrong : ChangeSpec := { name := "fnExactStrongLobes", fn := fun _ => fun
  | [d1, d2] => { results := [.lit (.bool false)], args := [d1, d2] }
  | _ => none }
def FnExactStrongLobesWrongFalsely : Prop := fnExactStrongLobesRow.holds Try.pinned (OpenSpec.ofChange fnExactStrongLobesWrong)

/-- 'laws.FnExactSteerWeights': WHATEVER THE INPUT: true; the input reads as it did. -/
def fnExactSteerWeightsSpec : ChangeSpec := { name := "fnExactSteerWeights", fn := fun _ => fun
  | [d1, d2, d3] => { results := [.lit (.bool true)], args := [d1, d2, d3] }
  | _ => none }
def fnExactSteerWeightsRow : OpenClaim := { program := "ytpeclgfopincbaa", sum := "7fcb451dfb8c814adf8ab0409bcb03b8760e9fd215f6e7356e74c32a377f30ac", func := "loop.example/g01181/laws.FnExactSteerWeights", spec := "fnExactSteerWeights", inPlace := ["math.Float32frombits", "math.Float64frombits", "math.Float64bits"], plainKeys := false, apart := false }
def FnExactSteerWeightsSaid : Prop := fnExactSteerWeightsRow.holds Try.pinned (OpenSpec.ofChange fnExactSteerWeightsSpec)

/-- ITS FALSE NEIGHBOUR: 'it returns false'. Refute it at one input. -/
def fnExactSteerWeightsWrong : ChangeSpec := { name := "fnExactSteerWeights", fn := fun _ => fun
  | [d1, d2, d3] => { results := [.lit (.bool false)], args := [d1, d2, d3] }
  | _ => none }
def FnExactSteerWeightsWrongFalsely : Prop := fnExactSteerWeightsRow.holds Try.pinned (OpenSpec.ofChange fnExactSteerWeightsWrong)

/-- 'laws.FnExactShortestRuler': WHATEVER THE INPUT: true; the input reads as it did. -/
def fnExactShortestRulerSpec : ChangeSpec := { name := "fnExactShortestRuler", fn := fun _ => fun
  | [d] => { results := [.lit (.bool true)], args := [d] }
  | _ => none }
def fnExactShortestRulerRow : OpenClaim := { program := "ytpeclgfopincbaa", sum := "7fcb451dfb8c814adf8ab0409bcb03b8760e9fd215f6e7356e74c32a377f30ac", func := "loop.example/g01181/laws.FnExactShortestRuler", spec := "fnExactShortestRuler", unfollowed := true, recurses := true, plainKeys := false, apart := false }
def FnExactShortestRulerSaid : Prop := fnExactShortestRulerRow.holds Try.pinned (OpenSpec.ofChange fnExactShortestRulerSpec)

/-- ITS FALSE NEIGHBOUR: 'it returns false'. Refute it at one input. -/
def fnExactShortestRulerWrong : ChangeSpec := { name := "fnExactShortestRuler", fn := fun _ => fun
  | [d] => { results := [.lit (.bool false)], args := [d] }
  | _ => none }
def FnExactShortestRulerWrongFalsely : Prop := fnExactShortestRulerRow.holds Try.pinned (OpenSpec.ofChange fnExactShortestRulerWrong)

/-- 'laws.FnExactFewestMarks': WHATEVER THE INPUT: true; the input reads as it did. -/
def fnExactFewestMarksSpec : ChangeSpec := { name := "fnExactFewestMarks", fn := fun _ => fun
  | [d] => { results := [.lit (.bool true)], args := [d] }
  | _ => none }
def fnExactFewestMarksRow : OpenClaim := { program := "ytpeclgfopincbaa", sum := "7fcb451dfb8c814adf8ab0409bcb03b8760e9fd215f6e7356e74c32a377f30ac", func := "loop.example/g01181/laws.FnExactFewestMarks", spec := "fnExactFewestMarks", unfollowed := true, recurses := true, plainKeys := false, apart := false }
def FnExactFewestMarksSaid : Prop := fnExactFewestMarksRow.holds Try.pinned (OpenSpec.ofChange fnExactFewestMarksSpec)

/-- ITS FALSE NEIGHBOUR: 'it returns false'. Refute it at one input. -/
def fnExactFewestMarksWrong : ChangeSpec := { name := "fnExactFewestMarks", fn := fun _ => fun
  | [d] => { results := [.lit (.bool false)], args := [d] }
  | _ => none }
def FnExactFewestMarksWrongFalsely : Prop := fnExactFewestMarksRow.holds Try.pinned (OpenSpec.ofChange fnExactFewestMarksWrong)

/-- 'laws.FnRulers': WHATEVER THE INPUT: true; the input reads as it did. -/
def fnRulersSpec : ChangeSpec := { name := "fnRulers", fn := fun _ => fun
  | [d1, d2] => { results := [.lit (.bool true)], args := [d1, d2] }
  | _ => none }
def fnRulersRow : OpenClaim := { program := "ytpeclgfopincbaa", sum := "7fcb451dfb8c814adf8ab0409bcb03b8760e9fd215f6e7356e74c32a377f30ac", func := "loop.example/g01181/laws.FnRulers", spec := "fnRulers", unfollowed := true, recurses := true, plainKeys := false, apart := false }
def FnRulersSaid : Prop := fnRulersRow.holds Try.pinned (OpenSpec.ofChange fnRulersSpec)

/-- ITS FALSE NEIGHBOUR: 'it returns false'. Refute it at one input. -/
def fnRulersWrong : ChangeSpec := { name := "fnRulers", fn := fun _ => fun
  | [d1, d2] => { results := [.lit (.bool false)], args := [d1, d2] }
  | _ => none }
def FnRulersWrongFalsely : Prop := fnRulersRow.holds Try.pinned (OpenSpec.ofChange fnRulersWrong)

/-- 'laws.FnPatterns': WHATEVER THE INPUT: true; the input reads as it did. -/
def fnPatternsSpec : ChangeSpec := { name := "fnPatterns", fn := fun _ => fun
  | [d1, d2] => { results := [.lit (.bool true)], args := [d1, d2] }
  | _ => none }
def fnPatternsRow : OpenClaim := { program := "ytpeclgfopincbaa", sum := "7fcb451dfb8c814adf8ab0409bcb03b8760e9fd215f6e7356e74c32a377f30ac", func := "loop.example/g01181/laws.FnPatterns", spec := "fnPatterns", inPlace := ["math.Float64bits", "math.Float64frombits", "math.sqrt", "math.Float32bits"], unfollowed := true, recurses := true, plainKeys := false, apart := false }
def FnPatternsSaid : Prop := fnPatternsRow.holds Try.pinned (OpenSpec.ofChange fnPatternsSpec)

/-- ITS FALSE NEIGHBOUR: 'it returns false'. Refute it at one input. -/
def fnPatternsWrong : ChangeSpec := { name := "fnPatterns", fn := fun _ => fun
  | [d1, d2] => { results := [.lit (.bool false)], args := [d1, d2] }
  | _ => none }
def FnPatternsWrongFalsely : Prop := fnPatternsRow.holds Try.pinned (OpenSpec.ofChange fnPatternsWrong)

/-- 'laws.FnMatrices': WHATEVER THE INPUT: true; the input reads as it did. -/
def fnMatricesSpec : ChangeSpec := { name := "fnMatrices", fn := fun _ => fun
  | [d1, d2] => { results := [.lit (.bool true)], args := [d1, d2] }
  | _ => none }
def fnMatricesRow : OpenClaim := { program := "ytpeclgfopincbaa", sum := "7fcb451dfb8c814adf8ab0409bcb03b8760e9fd215f6e7356e74c32a377f30ac", func := "loop.example/g01181/laws.FnMatrices", spec := "fnMatrices", inPlace := ["math.Float32bits"], unfollowed := true, recurses := true, plainKeys := false, apart := false }
def FnMatricesSaid : Prop := fnMatricesRow.holds Try.pinned (OpenSpec.ofChange fnMatricesSpec)

/-- ITS FALSE NEIGHBOUR: 'it returns false'. Refute it at one input. -/
def fnMatricesWrong : ChangeSpec := { name := "fnMatrices", fn := fun _ => fun
  | [d1, d2] => { results := [.lit (.bool false)], args := [d1, d2] }
  | _ => none }
def FnMatricesWrongFalsely : Prop := fnMatricesRow.holds Try.pinned (OpenSpec.ofChange fnMatricesWrong)

/-- 'laws.FnTapers': WHATEVER THE INPUT: true; the input reads as it did. -/
def fnTapersSpec : ChangeSpec := { name := "fnTapers", fn := fun _ => fun
  | [d1, d2] => { results := [.lit (.bool true)], args := [d1, d2] }
  | _ => none }
def fnTapersRow : OpenClaim := { program := "ytpeclgfopincbaa", sum := "7fcb451dfb8c814adf8ab0409bcb03b8760e9fd215f6e7356e74c32a377f30ac", func := "loop.example/g01181/laws.FnTapers", spec := "fnTapers", inPlace := ["math.Float64bits", "math.Float64frombits"], unfollowed := true, recurses := true, plainKeys := false, apart := false }
def FnTapersSaid : Prop := fnTapersRow.holds Try.pinned (OpenSpec.ofChange fnTapersSpec)

/-- ITS FALSE NEIGHBOUR: 'it returns false'. Refute it at one input. -/
def fnTapersWrong : ChangeSpec := { name := "fnTapers", fn := fun _ => fun
  | [d1, d2] => { results := [.lit (.bool false)], args := [d1, d2] }
  | _ => none }
def FnTapersWrongFalsely : Prop := fnTapersRow.holds Try.pinned (OpenSpec.ofChange fnTapersWrong)

/- THE SECOND FORM. 'bulk': how many values and letters a reading holds, each counted each time it is reached (what is shared counts as often as it is met; a slice's spare places count too). A statement '..UptoSaid' is the law's where the arguments, and the package variables that the reading takes, are together of bulk at most 1048576: NARROWER than '..Said'. Prove '..Said' where nothing that the law and all that it calls make is longer than what came in: it says more and counts as full. Else prove '..UptoSaid'. A law counts once. -/
mutual
def uptoBulk {H : Type} : DataW H → Nat
  | .lit (.string bytes) => bytes.length + 1
  | .lit _ => 1
  | .nil => 1
  | .ptr d => uptoBulk d + 1
  | .slice elems spare => uptoBulkAll elems + uptoBulkAll spare + 1
  | .agg parts => uptoBulkAll parts + 1
  | .iface _ d => uptoBulk d + 1
  | .map entries => uptoBulkEntries entries + 1
  | .held _ => 1
def uptoBulkAll {H : Type} : List (DataW H) → Nat
  | [] => 0
  | d :: r => uptoBulk d + uptoBulkAll r
def uptoBulkEntries {H : Type} : List (Lit × DataW H) → Nat
  | [] => 0
  | x :: r => uptoBulkEntry x + uptoBulkEntries r
def uptoBulkEntry {H : Type} : Lit × DataW H → Nat
  | (.string bytes, d) => bytes.length + uptoBulk d + 1
  | (_, d) => uptoBulk d + 1
 end
def uptoSmall : (H : Type) → List (DataW H) → Bool := fun _ ds => decide (uptoBulkAll ds ≤ 1048576)
def OpenSpec.upto (s : _root_.Go.ChangeSpec) : _root_.Go.OpenSpec := { _root_.Go.OpenSpec.ofChange s with cond := some uptoSmall }

/-- 'laws.FnSky', WHERE WHAT IT READS IS OF BULK AT MOST 1048576: true; the input reads as it did. -/
def fnSkyUptoRow : OpenClaim := { program := "ytpeclgfopincbaa", sum := "7fcb451dfb8c814adf8ab0409bcb03b8760e9fd215f6e7356e74c32a377f30ac", func := "loop.example/g01181/laws.FnSky", spec := "fnSky", inPlace := ["math.Float64bits", "math.Float64frombits", "math.Float32bits"], unfollowed := true, recurses := true, plainKeys := false, apart := false, narrowed := true }
def FnSkyUptoSaid : Prop := fnSkyUptoRow.holds Try.pinned (OpenSpec.upto fnSkySpec)

/-- 'laws.FnCuts', WHERE WHAT IT READS IS OF BULK AT MOST 1048576: true; the input reads as it did. -/
def fnCutsUptoRow : OpenClaim := { program := "ytpeclgfopincbaa", sum := "7fcb451dfb8c814adf8ab0409bcb03b8760e9fd215f6e7356e74c32a377f30ac", func := "loop.example/g01181/laws.FnCuts", spec := "fnCuts", inPlace := ["math.Float64bits", "math.Float64frombits", "math.Float32bits", "math.archFloor", "math.archTrunc"], unfollowed := true, recurses := true, plainKeys := false, apart := false, narrowed := true }
def FnCutsUptoSaid : Prop := fnCutsUptoRow.holds Try.pinned (OpenSpec.upto fnCutsSpec)

/-- 'laws.FnLobes', WHERE WHAT IT READS IS OF BULK AT MOST 1048576: true; the input reads as it did. -/
def fnLobesUptoRow : OpenClaim := { program := "ytpeclgfopincbaa", sum := "7fcb451dfb8c814adf8ab0409bcb03b8760e9fd215f6e7356e74c32a377f30ac", func := "loop.example/g01181/laws.FnLobes", spec := "fnLobes", unfollowed := true, recurses := true, plainKeys := false, apart := false, narrowed := true }
def FnLobesUptoSaid : Prop := fnLobesUptoRow.holds Try.pinned (OpenSpec.upto fnLobesSpec)

/-- 'laws.FnExactCountSources', WHERE WHAT IT READS IS OF BULK AT MOST 1048576: true; the input reads as it did. -/
def fnExactCountSourcesUptoRow : OpenClaim := { program := "ytpeclgfopincbaa", sum := "7fcb451dfb8c814adf8ab0409bcb03b8760e9fd215f6e7356e74c32a377f30ac", func := "loop.example/g01181/laws.FnExactCountSources", spec := "fnExactCountSources", plainKeys := false, apart := false, narrowed := true }
def FnExactCountSourcesUptoSaid : Prop := fnExactCountSourcesUptoRow.holds Try.pinned (OpenSpec.upto fnExactCountSourcesSpec)

/-- 'laws.FnExactStrongLobes', WHERE WHAT IT READS IS OF BULK AT MOST 1048576: true; the input reads as it did. -/
def fnExactStrongLobesUptoRow : OpenClaim := { program := "ytpeclgfopincbaa", sum := "7fcb451dfb8c814adf8ab0409bcb03b8760e9fd215f6e7356e74c32a377f30ac", func := "loop.example/g01181/laws.FnExactStrongLobes", spec := "fnExactStrongLobes", unfollowed := true, recurses := true, plainKeys := false, apart := false, narrowed := true }
def FnExactStrongLobesUptoSaid : Prop := fnExactStrongLobesUptoRow.holds Try.pinned (OpenSpec.upto fnExactStrongLobesSpec)

/-- 'laws.FnExactSteerWeights', WHERE WHAT IT READS IS OF BULK AT MOST 1048576: true; the input reads as it did. -/
def fnExactSteerWeightsUptoRow : OpenClaim := { program := "ytpeclgfopincbaa", sum := "7fcb451dfb8c814adf8ab0409bcb03b8760e9fd215f6e7356e74c32a377f30ac", func := "loop.example/g01181/laws.FnExactSteerWeights", spec := "fnExactSteerWeights", inPlace := ["math.Float32frombits", "math.Float64frombits", "math.Float64bits"], plainKeys := false, apart := false, narrowed := true }
def FnExactSteerWeightsUptoSaid : Prop := fnExactSteerWeightsUptoRow.holds Try.pinned (OpenSpec.upto fnExactSteerWeightsSpec)

/-- 'laws.FnExactShortestRuler', WHERE WHAT IT READS IS OF BULK AT MOST 1048576: true; the input reads as it did. -/
def fnExactShortestRulerUptoRow : OpenClaim := { program := "ytpeclgfopincbaa", sum := "7fcb451dfb8c814adf8ab0409bcb03b8760e9fd215f6e7356e74c32a377f30ac", func := "loop.example/g01181/laws.FnExactShortestRuler", spec := "fnExactShortestRuler", unfollowed := true, recurses := true, plainKeys := false, apart := false, narrowed := true }
def FnExactShortestRulerUptoSaid : Prop := fnExactShortestRulerUptoRow.holds Try.pinned (OpenSpec.upto fnExactShortestRulerSpec)

/-- 'laws.FnExactFewestMarks', WHERE WHAT IT READS IS OF BULK AT MOST 1048576: true; the input reads as it did. -/
def fnExactFewestMarksUptoRow : OpenClaim := { program := "ytpeclgfopincbaa", sum := "7fcb451dfb8c814adf8ab0409bcb03b8760e9fd215f6e7356e74c32a377f30ac", func := "loop.example/g01181/laws.FnExactFewestMarks", spec := "fnExactFewestMarks", unfollowed := true, recurses := true, plainKeys := false, apart := false, narrowed := true }
def FnExactFewestMarksUptoSaid : Prop := fnExactFewestMarksUptoRow.holds Try.pinned (OpenSpec.upto fnExactFewestMarksSpec)

/-- 'laws.FnRulers', WHERE WHAT IT READS IS OF BULK AT MOST 1048576: true; the input reads as it did. -/
def fnRulersUptoRow : OpenClaim := { program := "ytpeclgfopincbaa", sum := "7fcb451dfb8c814adf8ab0409bcb03b8760e9fd215f6e7356e74c32a377f30ac", func := "loop.example/g01181/laws.FnRulers", spec := "fnRulers", unfollowed := true, recurses := true, plainKeys := false, apart := false, narrowed := true }
def FnRulersUptoSaid : Prop := fnRulersUptoRow.holds Try.pinned (OpenSpec.upto fnRulersSpec)

/-- 'laws.FnPatterns', WHERE WHAT IT READS IS OF BULK AT MOST 1048576: true; the input reads as it did. -/
def fnPatternsUptoRow : OpenClaim := { program := "ytpeclgfopincbaa", sum := "7fcb451dfb8c814adf8ab0409bcb03b8760e9fd215f6e7356e74c32a377f30ac", func := "loop.example/g01181/laws.FnPatterns", spec := "fnPatterns", inPlace := ["math.Float64bits", "math.Float64frombits", "math.sqrt", "math.Float32bits"], unfollowed := true, recurses := true, plainKeys := false, apart := false, narrowed := true }
def FnPatternsUptoSaid : Prop := fnPatternsUptoRow.holds Try.pinned (OpenSpec.upto fnPatternsSpec)

/-- 'laws.FnMatrices', WHERE WHAT IT READS IS OF BULK AT MOST 1048576: true; the input reads as it did. -/
def fnMatricesUptoRow : OpenClaim := { program := "ytpeclgfopincbaa", sum := "7fcb451dfb8c814adf8ab0409bcb03b8760e9fd215f6e7356e74c32a377f30ac", func := "loop.example/g01181/laws.FnMatrices", spec := "fnMatrices", inPlace := ["math.Float32bits"], unfollowed := true, recurses := true, plainKeys := false, apart := false, narrowed := true }
def FnMatricesUptoSaid : Prop := fnMatricesUptoRow.holds Try.pinned (OpenSpec.upto fnMatricesSpec)

/-- 'laws.FnTapers', WHERE WHAT IT READS IS OF BULK AT MOST 1048576: true; the input reads as it did. -/
def fnTapersUptoRow : OpenClaim := { program := "ytpeclgfopincbaa", sum := "7fcb451dfb8c814adf8ab0409bcb03b8760e9fd215f6e7356e74c32a377f30ac", func := "loop.example/g01181/laws.FnTapers", spec := "fnTapers", inPlace := ["math.Float64bits", "math.Float64frombits"], unfollowed := true, recurses := true, plainKeys := false, apart := false, narrowed := true }
def FnTapersUptoSaid : Prop := fnTapersUptoRow.holds Try.pinned (OpenSpec.upto fnTapersSpec)

end Rows
end Go.Proofs.Ytpeclgfopincbaa
