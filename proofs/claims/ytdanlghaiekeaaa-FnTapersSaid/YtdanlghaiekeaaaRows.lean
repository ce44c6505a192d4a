/-
  No cell of these rows narrows 'for every input' (looked for: loops, veiled, ifaces, maps, wideKeys, modest, calm, conditions, laid).
  DERIVED. THE GIVEN ROWS OF THIS SEAT. 11 by the template 'for every input the law returns true; each argument reads behind the call as it read before'; 0 by the template 'total and deterministic' (their statements: YtdanlghaiekeaaaTotals.lean).
  GIVEN WITH THE SEED: the statements are not yours to turn. If you find one false, say at which input.
  Laid BY PROGRAM, IN A SANDBOX (cutbox-rows.mjs): the forced cells as the released guide's own fill.sh prints them over the translation da0878406f420b0e… (all of the seat's roots in one cut). By AI agents, Wed Nov 11 2026. No macro, syntax, notation, axiom, sorry.
-/
import Derived.Test.YtdanlghaiekeaaaChecked
import GoSem.Claim
import GoSem.ClaimJoined
import GoSem.ClaimMapViews
import Derived.JoinedTies
import Derived.KernelRfl
namespace Go.Proofs.Ytdanlghaiekeaaa
/- THE CELL 'sum', in the pinned program and in every row, IS THE sha256 OF THE DUMP (.gsa) THAT YtdanlghaiekeaaaProg.lean LOADS. Nothing in Lean hashes anything: it is a label: what it is worth is what the hold of that sum in a sandbox is worth. -/
noncomputable def Try.pinned : Pinned := { name := "ytdanlghaiekeaaa", sum := "da0878406f420b0e33f914db8140a73ef84f8fd58ea9b423676713a0f9b6d7a7", checked := Try.checked }
namespace Rows
def none {H : Type} : Left H := { results := [], args := [] }

/-- 'laws.FnPolynomials': WHATEVER THE INPUT: true; the input reads as it did. -/
def fnPolynomialsSpec : ChangeSpec := { name := "fnPolynomials", fn := fun _ => fun
  | [d1, d2] => { results := [.lit (.bool true)], args := [d1, d2] }
  | _ => none }
def fnPolynomialsRow : OpenClaim := { program := "ytdanlghaiekeaaa", sum := "da0878406f420b0e33f914db8140a73ef84f8fd58ea9b423676713a0f9b6d7a7", func := "loop.example/g01181/laws.FnPolynomials", spec := "fnPolynomials", unfollowed := true, recurses := true, plainKeys := false, apart := false }
def FnPolynomialsSaid : Prop := fnPolynomialsRow.holds Try.pinned (OpenSpec.ofChange fnPolynomialsSpec)

/-- ITS FALSE NEIGHBOUR: 'it returns false'. Refute it at one input. -/
def fnPolynomialsWrong : ChangeSpec := { name := "fnPolynomials", fn := fun _ => fun
  | [d1, d2] => { results := [.lit (.bool false)], args := [d1, d2] }
  | _ => none }
def FnPolynomialsWrongFalsely : Prop := fnPolynomialsRow.holds Try.pinned (OpenSpec.ofChange fnPolynomialsWrong)

/-- 'laws.FnNulls': WHATEVER THE INPUT: true; the input reads as it did. -/
def fnNullsSpec : ChangeSpec := { name := "fnNulls", fn := fun _ => fun
  | [d1, d2] => { results := [.lit (.bool true)], args := [d1, d2] }
  | _ => none }
def fnNullsRow : OpenClaim := { program := "ytdanlghaiekeaaa", sum := "da0878406f420b0e33f914db8140a73ef84f8fd58ea9b423676713a0f9b6d7a7", func := "loop.example/g01181/laws.FnNulls", spec := "fnNulls", inPlace := ["math.Float64bits", "math.Float64frombits", "math.sqrt"], unfollowed := true, recurses := true, plainKeys := false, apart := false }
def FnNullsSaid : Prop := fnNullsRow.holds Try.pinned (OpenSpec.ofChange fnNullsSpec)

/-- ITS FALSE NEIGHBOUR: 'it returns false'. Refute it at one input. -/
def fnNullsWrong : ChangeSpec := { name := "fnNulls", fn := fun _ => fun
  | [d1, d2] => { results := [.lit (.bool false)], args := [d1, d2] }
  | _ => none }
def FnNullsWrongFalsely : Prop := fnNullsRow.holds Try.pinned (OpenSpec.ofChange fnNullsWrong)

/-- 'laws.FnShapes': WHATEVER THE INPUT: true; the input reads as it did. -/
def fnShapesSpec : ChangeSpec := { name := "fnShapes", fn := fun _ => fun
  | [d1, d2] => { results := [.lit (.bool true)], args := [d1, d2] }
  | _ => none }
def fnShapesRow : OpenClaim := { program := "ytdanlghaiekeaaa", sum := "da0878406f420b0e33f914db8140a73ef84f8fd58ea9b423676713a0f9b6d7a7", func := "loop.example/g01181/laws.FnShapes", spec := "fnShapes", inPlace := ["math.Float64bits", "math.Float64frombits", "math.RoundToEven"], plainKeys := false, apart := false }
def FnShapesSaid : Prop := fnShapesRow.holds Try.pinned (OpenSpec.ofChange fnShapesSpec)

/-- ITS FALSE NEIGHBOUR: 'it returns false'. Refute it at one input. -/
def fnShapesWrong : ChangeSpec := { name := "fnShapes", fn := fun _ => fun
  | [d1, d2] => { results := [.lit (.bool false)], args := [d1, d2] }
  | _ => none }
def FnShapesWrongFalsely : Prop := fnShapesRow.holds Try.pinned (OpenSpec.ofChange fnShapesWrong)

/-- 'laws.FnExactUnitMatrix': WHATEVER THE INPUT: true; the input reads as it did. -/
def fnExactUnitMatrixSpec : ChangeSpec := { name := "fnExactUnitMatrix", fn := fun _ => fun
  | [d] => { results := [.lit (.bool true)], args := [d] }
  | _ => none }
def fnExactUnitMatrixRow : OpenClaim := { program := "ytdanlghaiekeaaa", sum := "da0878406f420b0e33f914db8140a73ef84f8fd58ea9b423676713a0f9b6d7a7", func := "loop.example/g01181/laws.FnExactUnitMatrix", spec := "fnExactUnitMatrix", unfollowed := true, recurses := true, plainKeys := false, apart := false }
def FnExactUnitMatrixSaid : Prop := fnExactUnitMatrixRow.holds Try.pinned (OpenSpec.ofChange fnExactUnitMatrixSpec)

/-- ITS FALSE NEIGHBOUR: 'it returns false'. Refute it at one input. -/
def fnExactUnitMatrixWrong : ChangeSpec := { name := "fnExactUnitMatrix", fn := fun _ => fun
  | [d] => { results := [.lit (.bool false)], args := [d] }
  | _ => none }
def FnExactUnitMatrixWrongFalsely : Prop := fnExactUnitMatrixRow.holds Try.pinned (OpenSpec.ofChange fnExactUnitMatrixWrong)

/-- 'laws.FnMatrices': WHATEVER THE INPUT: true; the input reads as it did. -/
def fnMatricesSpec : ChangeSpec := { name := "fnMatrices", fn := fun _ => fun
  | [d1, d2] => { results := [.lit (.bool true)], args := [d1, d2] }
  | _ => none }
def fnMatricesRow : OpenClaim := { program := "ytdanlghaiekeaaa", sum := "da0878406f420b0e33f914db8140a73ef84f8fd58ea9b423676713a0f9b6d7a7", func := "loop.example/g01181/laws.FnMatrices", spec := "fnMatrices", inPlace := ["math.Float32bits"], unfollowed := true, recurses := true, plainKeys := false, apart := false }
def FnMatricesSaid : Prop := fnMatricesRow.holds Try.pinned (OpenSpec.ofChange fnMatricesSpec)

/-- ITS FALSE NEIGHBOUR: 'it returns false'. Refute it at one input. -/
def fnMatricesWrong : ChangeSpec := { name := "fnMatrices", fn := fun _ => fun
  | [d1, d2] => { results := [.lit (.bool false)], args := [d1, d2] }
  | _ => none }
def FnMatricesWrongFalsely : Prop := fnMatricesRow.holds Try.pinned (OpenSpec.ofChange fnMatricesWrong)

/-- 'laws.FnTapers': WHATEVER THE INPUT: true; the input reads as it did. -/
def fnTapersSpec : ChangeSpec := { name := "fnTapers", fn := fun _ => fun
  | [d1, d2] => { results := [.lit (.bool true)], args := [d1, d2] }
  | _ => none }
def fnTapersRow : OpenClaim := { program := "ytdanlghaiekeaaa", sum := "da0878406f420b0e33f914db8140a73ef84f8fd58ea9b423676713a0f9b6d7a7", func := "loop.example/g01181/laws.FnTapers", spec := "fnTapers", inPlace := ["math.Float64bits", "math.Float64frombits"], unfollowed := true, recurses := true, plainKeys := false, apart := false }
def FnTapersSaid : Prop := fnTapersRow.holds Try.pinned (OpenSpec.ofChange fnTapersSpec)

/-- ITS FALSE NEIGHBOUR: 'it returns false'. Refute it at one input. -/
def fnTapersWrong : ChangeSpec := { name := "fnTapers", fn := fun _ => fun
  | [d1, d2] => { results := [.lit (.bool false)], args := [d1, d2] }
  | _ => none }
def FnTapersWrongFalsely : Prop := fnTapersRow.holds Try.pinned (OpenSpec.ofChange fnTapersWrong)

/-- 'laws.FnNormed': WHATEVER THE INPUT: true; the input reads as it did. -/
def fnNormedSpec : ChangeSpec := { name := "fnNormed", fn := fun _ => fun
  | [d1, d2] => { results := [.lit (.bool true)], args := [d1, d2] }
  | _ => none }
def fnNormedRow : OpenClaim := { program := "ytdanlghaiekeaaa", sum := "da0878406f420b0e33f914db8140a73ef84f8fd58ea9b423676713a0f9b6d7a7", func := "loop.example/g01181/laws.FnNormed", spec := "fnNormed", inPlace := ["math.sqrt", "math.Float64bits", "math.Float64frombits", "math.Float32bits"], unfollowed := true, recurses := true, plainKeys := false, apart := false }
def FnNormedSaid : Prop := fnNormedRow.holds Try.pinned (OpenSpec.ofChange fnNormedSpec)

/-- ITS FALSE NEIGHBOUR: 'it returns false'. Refute it at one input. -/
def fnNormedWrong : ChangeSpec := { name := "fnNormed", fn := fun _ => fun
  | [d1, d2] => { results := [.lit (.bool false)], args := [d1, d2] }
  | _ => none }
def FnNormedWrongFalsely : Prop := fnNormedRow.holds Try.pinned (OpenSpec.ofChange fnNormedWrong)

/-- 'laws.FnCuts': WHATEVER THE INPUT: true; the input reads as it did. -/
def fnCutsSpec : ChangeSpec := { name := "fnCuts", fn := fun _ => fun
  | [d1, d2] => { results := [.lit (.bool true)], args := [d1, d2] }
  | _ => none }
def fnCutsRow : OpenClaim := { program := "ytdanlghaiekeaaa", sum := "da0878406f420b0e33f914db8140a73ef84f8fd58ea9b423676713a0f9b6d7a7", func := "loop.example/g01181/laws.FnCuts", spec := "fnCuts", inPlace := ["math.Float64bits", "math.Float64frombits", "math.Float32bits", "math.archFloor", "math.archTrunc"], unfollowed := true, recurses := true, plainKeys := false, apart := false }
def FnCutsSaid : Prop := fnCutsRow.holds Try.pinned (OpenSpec.ofChange fnCutsSpec)

/-- ITS FALSE NEIGHBOUR: 'it returns false'. Refute it at one input. -/
def fnCutsWrong : ChangeSpec := { name := "fnCuts", fn := fun _ => fun
  | [d1, d2] => { results := [.lit (.bool false)], args := [d1, d2] }
  | _ => none }
def FnCutsWrongFalsely : Prop := fnCutsRow.holds Try.pinned (OpenSpec.ofChange fnCutsWrong)

/-- 'laws.FnSteered': WHATEVER THE INPUT: true; the input reads as it did. -/
def fnSteeredSpec : ChangeSpec := { name := "fnSteered", fn := fun _ => fun
  | [d1, d2] => { results := [.lit (.bool true)], args := [d1, d2] }
  | _ => none }
def fnSteeredRow : OpenClaim := { program := "ytdanlghaiekeaaa", sum := "da0878406f420b0e33f914db8140a73ef84f8fd58ea9b423676713a0f9b6d7a7", func := "loop.example/g01181/laws.FnSteered", spec := "fnSteered", inPlace := ["math.Float64bits", "math.Float64frombits", "math.sqrt"], plainKeys := false, apart := false }
def FnSteeredSaid : Prop := fnSteeredRow.holds Try.pinned (OpenSpec.ofChange fnSteeredSpec)

/-- ITS FALSE NEIGHBOUR: 'it returns false'. Refute it at one input. -/
def fnSteeredWrong : ChangeSpec := { name := "fnSteered", fn := fun _ => fun
  | [d1, d2] => { results := [.lit (.bool false)], args := [d1, d2] }
  | _ => none }
def FnSteeredWrongFalsely : Prop := fnSteeredRow.holds Try.pinned (OpenSpec.ofChange fnSteeredWrong)

/-- 'laws.FnSky': WHATEVER THE INPUT: true; the input reads as it did. -/
def fnSkySpec : ChangeSpec := { name := "fnSky", fn := fun _ => fun
  | [d1, d2] => { results := [.lit (.bool true)], args := [d1, d2] }
  | _ => none }
def fnSkyRow : OpenClaim := { program := "ytdanlghaiekeaaa", sum := "da0878406f420b0e33f914db8140a73ef84f8fd58ea9b423676713a0f9b6d7a7", func := "loop.example/g01181/laws.FnSky", spec := "fnSky", inPlace := ["math.Float64bits", "math.Float64frombits", "math.Float32bits"], unfollowed := true, recurses := true, plainKeys := false, apart := false }
def FnSkySaid : Prop := fnSkyRow.holds Try.pinned (OpenSpec.ofChange fnSkySpec)

/-- ITS FALSE NEIGHBOUR: 'it returns false'. Refute it at one input. -/
def fnSkyWrong : ChangeSpec := { name := "fnSky", fn := fun _ => fun
  | [d1, d2] => { results := [.lit (.bool false)], args := [d1, d2] }
  | _ => none }
def FnSkyWrongFalsely : Prop := fnSkyRow.holds Try.pinned (OpenSpec.ofChange fnSkyWrong)

/-- 'laws.FnRoundedPhases': WHATEVER THE INPUT: true; the input reads as it did. -/
def fnRoundedPhasesSpec : ChangeSpec := { name := "fnRoundedPhases", fn := fun _ => fun
  | [d1, d2] => { results := [.lit (.bool true)], args := [d1, d2] }
  | _ => none }
def fnRoundedPhasesRow : OpenClaim := { program := "ytdanlghaiekeaaa", sum := "da0878406f420b0e33f914db8140a73ef84f8fd58ea9b423676713a0f9b6d7a7", func := "loop.example/g01181/laws.FnRoundedPhases", spec := "fnRoundedPhases", inPlace := ["math.Float64bits", "math.Float64frombits", "math.sqrt", "math.RoundToEven", "math.Float32bits"], plainKeys := false, apart := false }
def FnRoundedPhasesSaid : Prop := fnRoundedPhasesRow.holds Try.pinned (OpenSpec.ofChange fnRoundedPhasesSpec)

/-- ITS FALSE NEIGHBOUR: 'it returns false'. Refute it at one input. -/
def fnRoundedPhasesWrong : ChangeSpec := { name := "fnRoundedPhases", fn := fun _ => fun
  | [d1, d2] => { results := [.lit (.bool false)], args := [d1, d2] }
  | _ => none }
def FnRoundedPhasesWrongFalsely : Prop := fnRoundedPhasesRow.holds Try.pinned (OpenSpec.ofChange fnRoundedPhasesWrong)

/- THE SECOND FORM. 'bulk': how many values and letters a reading holds, each counted each time it is reached (what is shared counts as often as it is met; a slice's spare places count too). A statement '..UptoSaid' is the law's where the arguments, and the package variables that the reading takes, are together of bulk at most 1048576: NARROWER than '..Said'. Prove '..Said' where nothing that the law and all that it calls make is longer than what came in: it says more and counts as full. Else prove '..UptoSaid'. A law counts once. -/
mutual
def uptoBulk {H : Type} : DataW H → Nat
  | .lit (.string bytes) => bytes.length + 1
  | .lit _ => 1
  | .nil => 1
  | .ptr d => uptoBulk d + 1
  | .slice elems spare => uptoBulkAll elems + uptoBulkAll spare + 1
  | .agg parts => uptoBulkAll parts + 1
  | .iface _ d => uptoBulk d + 1
  | .map entries => uptoBulkEntries entries + 1
  | .held _ => 1
def uptoBulkAll {H : Type} : List (DataW H) → Nat
  | [] => 0
  | d :: r => uptoBulk d + uptoBulkAll r
def uptoBulkEntries {H : Type} : List (Lit × DataW H) → Nat
  | [] => 0
  | x :: r => uptoBulkEntry x + uptoBulkEntries r
def uptoBulkEntry {H : Type} : Lit × DataW H → Nat
  | (.string bytes, d) => bytes.length + uptoBulk d + 1
  | (_, d) => uptoBulk d + 1
 end
def uptoSmall : (H : Type) → List (DataW H) → Bool := fun _ ds => decide (uptoBulkAll ds ≤ 1048576)
def OpenSpec.upto (s : _root_.Go.ChangeSpec) : _root_.Go.OpenSpec := { _root_.Go.OpenSpec.ofChange s with cond := some uptoSmall }

/-- 'laws.FnPolynomials', WHERE WHAT IT READS IS OF BULK AT MOST 1048576: true; the input reads as it did. -/
def fnPolynomialsUptoRow : OpenClaim := { program := "ytdanlghaiekeaaa", sum := "da0878406f420b0e33f914db8140a73ef84f8fd58ea9b423676713a0f9b6d7a7", func := "loop.example/g01181/laws.FnPolynomials", spec := "fnPolynomials", unfollowed := true, recurses := true, plainKeys := false, apart := false, narrowed := true }
def FnPolynomialsUptoSaid : Prop := fnPolynomialsUptoRow.holds Try.pinned (OpenSpec.upto fnPolynomialsSpec)

/-- 'laws.FnNulls', WHERE WHAT IT READS IS OF BULK AT MOST 1048576: true; the input reads as it did. -/
def fnNullsUptoRow : OpenClaim := { program := "ytdanlghaiekeaaa", sum := "da0878406f420b0e33f914db8140a73ef84f8fd58ea9b423676713a0f9b6d7a7", func := "loop.example/g01181/laws.FnNulls", spec := "fnNulls", inPlace := ["math.Float64bits", "math.Float64frombits", "math.sqrt"], unfollowed := true, recurses := true, plainKeys := false, apart := false, narrowed := true }
def FnNullsUptoSaid : Prop := fnNullsUptoRow.holds Try.pinned (OpenSpec.upto fnNullsSpec)

/-- 'laws.FnShapes', WHERE WHAT IT READS IS OF BULK AT MOST 1048576: true; the input reads as it did. -/
def fnShapesUptoRow : OpenClaim := { program := "ytdanlghaiekeaaa", sum := "da0878406f420b0e33f914db8140a73ef84f8fd58ea9b423676713a0f9b6d7a7", func := "loop.example/g01181/laws.FnShapes", spec := "fnShapes", inPlace := ["math.Float64bits", "math.Float64frombits", "math.RoundToEven"], plainKeys := false, apart := false, narrowed := true }
def FnShapesUptoSaid : Prop := fnShapesUptoRow.holds Try.pinned (OpenSpec.upto fnShapesSpec)

/-- 'laws.FnExactUnitMatrix', WHERE WHAT IT READS IS OF BULK AT MOST 1048576: true; the input reads as it did. -/
def fnExactUnitMatrixUptoRow : OpenClaim := { program := "ytdanlghaiekeaaa", sum := "da0878406f420b0e33f914db8140a73ef84f8fd58ea9b423676713a0f9b6d7a7", func := "loop.example/g01181/laws.FnExactUnitMatrix", spec := "fnExactUnitMatrix", unfollowed := true, recurses := true, plainKeys := false, apart := false, narrowed := true }
def FnExactUnitMatrixUptoSaid : Prop := fnExactUnitMatrixUptoRow.holds Try.pinned (OpenSpec.upto fnExactUnitMatrixSpec)

/-- 'laws.FnMatrices', WHERE WHAT IT READS IS OF BULK AT MOST 1048576: true; the input reads as it did. -/
def fnMatricesUptoRow : OpenClaim := { program := "ytdanlghaiekeaaa", sum := "da0878406f420b0e33f914db8140a73ef84f8fd58ea9b423676713a0f9b6d7a7", func := "loop.example/g01181/laws.FnMatrices", spec := "fnMatrices", inPlace := ["math.Float32bits"], unfollowed := true, recurses := true, plainKeys := false, apart := false, narrowed := true }
def FnMatricesUptoSaid : Prop := fnMatricesUptoRow.holds Try.pinned (OpenSpec.upto fnMatricesSpec)

/-- 'laws.FnTapers', WHERE WHAT IT READS IS OF BULK AT MOST 1048576: true; the input reads as it did. -/
def fnTapersUptoRow : OpenClaim := { program := "ytdanlghaiekeaaa", sum := "da0878406f420b0e33f914db8140a73ef84f8fd58ea9b423676713a0f9b6d7a7", func := "loop.example/g01181/laws.FnTapers", spec := "fnTapers", inPlace := ["math.Float64bits", "math.Float64frombits"], unfollowed := true, recurses := true, plainKeys := false, apart := false, narrowed := true }
def FnTapersUptoSaid : Prop := fnTapersUptoRow.holds Try.pinned (OpenSpec.upto fnTapersSpec)

/-- 'laws.FnNormed', WHERE WHAT IT READS IS OF BULK AT MOST 1048576: true; the input reads as it did. -/
def fnNormedUptoRow : OpenClaim := { program := "ytdanlghaiekeaaa", sum := "da0878406f420b0e33f914db8140a73ef84f8fd58ea9b423676713a0f9b6d7a7", func := "loop.example/g01181/laws.FnNormed", spec := "fnNormed", inPlace := ["math.sqrt", "math.Float64bits", "math.Float64frombits", "math.Float32bits"], unfollowed := true, recurses := true, plainKeys := false, apart := false, narrowed := true }
def FnNormedUptoSaid : Prop := fnNormedUptoRow.holds Try.pinned (OpenSpec.upto fnNormedSpec)

/-- 'laws.FnCuts', WHERE WHAT IT READS IS OF BULK AT MOST 1048576: true; the input reads as it did. -/
def fnCutsUptoRow : OpenClaim := { program := "ytdanlghaiekeaaa", sum := "da0878406f420b0e33f914db8140a73ef84f8fd58ea9b423676713a0f9b6d7a7", func := "loop.example/g01181/laws.FnCuts", spec := "fnCuts", inPlace := ["math.Float64bits", "math.Float64frombits", "math.Float32bits", "math.archFloor", "math.archTrunc"], unfollowed := true, recurses := true, plainKeys := false, apart := false, narrowed := true }
def FnCutsUptoSaid : Prop := fnCutsUptoRow.holds Try.pinned (OpenSpec.upto fnCutsSpec)

/-- 'laws.FnSteered', WHERE WHAT IT READS IS OF BULK AT MOST 1048576: true; the input reads as it did. -/
def fnSteeredUptoRow : OpenClaim := { program := "ytdanlghaiekeaaa", sum := "da0878406f420b0e33f914db8140a73ef84f8fd58ea9b423676713a0f9b6d7a7", func := "loop.example/g01181/laws.FnSteered", spec := "fnSteered", inPlace := ["math.Float64bits", "math.Float64frombits", "math.sqrt"], plainKeys := false, apart := false, narrowed := true }
def FnSteeredUptoSaid : Prop := fnSteeredUptoRow.holds Try.pinned (OpenSpec.upto fnSteeredSpec)

/-- 'laws.FnSky', WHERE WHAT IT READS IS OF BULK AT MOST 1048576: true; the input reads as it did. -/
def fnSkyUptoRow : OpenClaim := { program := "ytdanlghaiekeaaa", sum := "da0878406f420b0e33f914db8140a73ef84f8fd58ea9b423676713a0f9b6d7a7", func := "loop.example/g01181/laws.FnSky", spec := "fnSky", inPlace := ["math.Float64bits", "math.Float64frombits", "math.Float32bits"], unfollowed := true, recurses := true, plainKeys := false, apart := false, narrowed := true }
def FnSkyUptoSaid : Prop := fnSkyUptoRow.holds Try.pinned (OpenSpec.upto fnSkySpec)

/-- 'laws.FnRoundedPhases', WHERE WHAT IT READS IS OF BULK AT MOST 1048576: true; the input reads as it did. -/
def fnRoundedPhasesUptoRow : OpenClaim := { program := "ytdanlghaiekeaaa", sum := "da0878406f420b0e33f914db8140a73ef84f8fd58ea9b423676713a0f9b6d7a7", func := "loop.example/g01181/laws.FnRoundedPhases", spec := "fnRoundedPhases", inPlace := ["math.Float64bits", "math.Float64frombits", "math.sqrt", "math.RoundToEven", "math.Float32bits"], plainKeys := false, apart := false, narrowed := true }
def FnRoundedPhasesUptoSaid : Prop := fnRoundedPhasesUptoRow.holds Try.pinned (OpenSpec.upto fnRoundedPhasesSpec)

end Rows
end Go.Proofs.Ytdanlghaiekeaaa
