/-
  No cell of these rows narrows 'for every input' (looked for: loops, veiled, ifaces, maps, wideKeys, modest, calm, conditions, laid).
  DERIVED. THE GIVEN ROWS OF THIS SEAT. 11 by the template 'for every input the law returns true; each argument reads behind the call as it read before'; 0 by the template 'total and deterministic' (their statements: YthnifmgjgdmmoabTotals.lean).
  GIVEN WITH THE SEED: the statements are not yours to turn. If you find one false, say at which input.
  Laid BY PROGRAM, IN A SANDBOX (cutbox-rows.mjs): the forced cells as the released guide's own fill.sh prints them over the translation 4f873ebe3d74eda7… (all of the seat's roots in one cut). By AI agents, Wed Nov 11 2026. No macro, syntax, notation, axiom, sorry.
-/
import Derived.Test.YthnifmgjgdmmoabChecked
import GoSem.Claim
import GoSem.ClaimJoined
import GoSem.ClaimMapViews
import Derived.JoinedTies
import Derived.KernelRfl
namespace Go.Proofs.Ythnifmgjgdmmoab
/- THE CELL 'sum', in the pinned program and in every row, IS THE sha256 OF THE DUMP (.gsa) THAT YthnifmgjgdmmoabProg.lean LOADS. Nothing in Lean hashes anything: it is a label: what it is worth is what the hold of that sum in a sandbox is worth. -/
noncomputable def Try.pinned : Pinned := { name := "ythnifmgjgdmmoab", sum := "4f873ebe3d74eda7f123435cf634db39b82c209d0b194d3bf8ee1181c08d53c4", checked := Try.checked }
namespace Rows
def none {H : Type} : Left H := { results := [], args := [] }

/-- 'laws.FnPatterns': WHATEVER THE INPUT: true; the input reads as it did. -/
def fnPatternsSpec : ChangeSpec := { name := "fnPatterns", fn := fun _ => fun
  | [d1, d2] => { results := [.lit (.bool true)], args := [d1, d2] }
  | _ => none }
def fnPatternsRow : OpenClaim := { program := "ythnifmgjgdmmoab", sum := "4f873ebe3d74eda7f123435cf634db39b82c209d0b194d3bf8ee1181c08d53c4", func := "loop.example/g01181/laws.FnPatterns", spec := "fnPatterns", inPlace := ["math.Float64bits", "math.Float64frombits", "math.sqrt", "math.Float32bits"], unfollowed := true, recurses := true, plainKeys := false, apart := false }
def FnPatternsSaid : Prop := fnPatternsRow.holds Try.pinned (OpenSpec.ofChange fnPatternsSpec)

/-- ITS FALSE NEIGHBOUR: 'it returns false'. Refute it at one input. -/
def fnPatternsWrong : ChangeSpec := { name := "fnPatterns", fn := fun _ => fun
  | [d1, d2] => { results := [.lit (.bool false)], args := [d1, d2] }
  | _ => none }
def FnPatternsWrongFalsely : Prop := fnPatternsRow.holds Try.pinned (OpenSpec.ofChange fnPatternsWrong)

/-- 'laws.FnSky': WHATEVER THE INPUT: true; the input reads as it did. -/
def fnSkySpec : ChangeSpec := { name := "fnSky", fn := fun _ => fun
  | [d1, d2] => { results := [.lit (.bool true)], args := [d1, d2] }
  | _ => none }
def fnSkyRow : OpenClaim := { program := "ythnifmgjgdmmoab", sum := "4f873ebe3d74eda7f123435cf634db39b82c209d0b194d3bf8ee1181c08d53c4", func := "loop.example/g01181/laws.FnSky", spec := "fnSky", inPlace := ["math.Float64bits", "math.Float64frombits", "math.Float32bits"], unfollowed := true, recurses := true, plainKeys := false, apart := false }
def FnSkySaid : Prop := fnSkyRow.holds Try.pinned (OpenSpec.ofChange fnSkySpec)

/-- ITS FALSE NEIGHBOUR: 'it returns false'. Refute it at one input. -/
def fnSkyWrong : ChangeSpec := { name := "fnSky", fn := fun _ => fun
  | [d1, d2] => { results := [.lit (.bool false)], args := [d1, d2] }
  | _ => none }
def FnSkyWrongFalsely : Prop := fnSkyRow.holds Try.pinned (OpenSpec.ofChange fnSkyWrong)

/-- 'laws.FnCircles': WHATEVER THE INPUT: true; the input reads as it did. -/
def fnCirclesSpec : ChangeSpec := { name := "fnCircles", fn := fun _ => fun
  | [d1, d2] => { results := [.lit (.bool true)], args := [d1, d2] }
  | _ => none }
def fnCirclesRow : OpenClaim := { program := "ythnifmgjgdmmoab", sum := "4f873ebe3d74eda7f123435cf634db39b82c209d0b194d3bf8ee1181c08d53c4", func := "loop.example/g01181/laws.FnCircles", spec := "fnCircles", inPlace := ["math.Float64bits", "math.Float64frombits", "math.sqrt", "math.archFloor", "math.archTrunc", "math.Float32bits"], plainKeys := false, apart := false }
def FnCirclesSaid : Prop := fnCirclesRow.holds Try.pinned (OpenSpec.ofChange fnCirclesSpec)

/-- ITS FALSE NEIGHBOUR: 'it returns false'. Refute it at one input. -/
def fnCirclesWrong : ChangeSpec := { name := "fnCircles", fn := fun _ => fun
  | [d1, d2] => { results := [.lit (.bool false)], args := [d1, d2] }
  | _ => none }
def FnCirclesWrongFalsely : Prop := fnCirclesRow.holds Try.pinned (OpenSpec.ofChange fnCirclesWrong)

/-- 'laws.FnSteered': WHATEVER THE INPUT: true; the input reads as it did. -/
def fnSteeredSpec : ChangeSpec := { name := "fnSteered", fn := fun _ => fun
  | [d1, d2] => { results := [.lit (.bool true)], args := [d1, d2] }
  | _ => none }
def fnSteeredRow : OpenClaim := { program := "ythnifmgjgdmmoab", sum := "4f873ebe3d74eda7f123435cf634db39b82c209d0b194d3bf8ee1181c08d53c4", func := "loop.example/g01181/laws.FnSteered", spec := "fnSteered", inPlace := ["math.Float64bits", "math.Float64frombits", "math.sqrt"], plainKeys := false, apart := false }
def FnSteeredSaid : Prop := fnSteeredRow.holds Try.pinned (OpenSpec.ofChange fnSteeredSpec)

/-- ITS FALSE NEIGHBOUR: 'it returns false'. Refute it at one input. -/
def fnSteeredWrong : ChangeSpec := { name := "fnSteered", fn := fun _ => fun
  | [d1, d2] => { results := [.lit (.bool false)], args := [d1, d2] }
  | _ => none }
def FnSteeredWrongFalsely : Prop := fnSteeredRow.holds Try.pinned (OpenSpec.ofChange fnSteeredWrong)

/-- 'laws.FnTwins': WHATEVER THE INPUT: true; the input reads as it did. -/
def fnTwinsSpec : ChangeSpec := { name := "fnTwins", fn := fun _ => fun
  | [d1, d2] => { results := [.lit (.bool true)], args := [d1, d2] }
  | _ => none }
def fnTwinsRow : OpenClaim := { program := "ythnifmgjgdmmoab", sum := "4f873ebe3d74eda7f123435cf634db39b82c209d0b194d3bf8ee1181c08d53c4", func := "loop.example/g01181/laws.FnTwins", spec := "fnTwins", inPlace := ["math.Float64bits", "math.Float64frombits", "math.Float32bits"], plainKeys := false, apart := false }
def FnTwinsSaid : Prop := fnTwinsRow.holds Try.pinned (OpenSpec.ofChange fnTwinsSpec)

/-- ITS FALSE NEIGHBOUR: 'it returns false'. Refute it at one input. -/
def fnTwinsWrong : ChangeSpec := { name := "fnTwins", fn := fun _ => fun
  | [d1, d2] => { results := [.lit (.bool false)], args := [d1, d2] }
  | _ => none }
def FnTwinsWrongFalsely : Prop := fnTwinsRow.holds Try.pinned (OpenSpec.ofChange fnTwinsWrong)

/-- 'laws.FnShapes': WHATEVER THE INPUT: true; the input reads as it did. -/
def fnShapesSpec : ChangeSpec := { name := "fnShapes", fn := fun _ => fun
  | [d1, d2] => { results := [.lit (.bool true)], args := [d1, d2] }
  | _ => none }
def fnShapesRow : OpenClaim := { program := "ythnifmgjgdmmoab", sum := "4f873ebe3d74eda7f123435cf634db39b82c209d0b194d3bf8ee1181c08d53c4", func := "loop.example/g01181/laws.FnShapes", spec := "fnShapes", inPlace := ["math.Float64bits", "math.Float64frombits", "math.RoundToEven"], plainKeys := false, apart := false }
def FnShapesSaid : Prop := fnShapesRow.holds Try.pinned (OpenSpec.ofChange fnShapesSpec)

/-- ITS FALSE NEIGHBOUR: 'it returns false'. Refute it at one input. -/
def fnShapesWrong : ChangeSpec := { name := "fnShapes", fn := fun _ => fun
  | [d1, d2] => { results := [.lit (.bool false)], args := [d1, d2] }
  | _ => none }
def FnShapesWrongFalsely : Prop := fnShapesRow.holds Try.pinned (OpenSpec.ofChange fnShapesWrong)

/-- 'laws.FnRulers': WHATEVER THE INPUT: true; the input reads as it did. -/
def fnRulersSpec : ChangeSpec := { name := "fnRulers", fn := fun _ => fun
  | [d1, d2] => { results := [.lit (.bool true)], args := [d1, d2] }
  | _ => none }
def fnRulersRow : OpenClaim := { program := "ythnifmgjgdmmoab", sum := "4f873ebe3d74eda7f123435cf634db39b82c209d0b194d3bf8ee1181c08d53c4", func := "loop.example/g01181/laws.FnRulers", spec := "fnRulers", unfollowed := true, recurses := true, plainKeys := false, apart := false }
def FnRulersSaid : Prop := fnRulersRow.holds Try.pinned (OpenSpec.ofChange fnRulersSpec)

/-- ITS FALSE NEIGHBOUR: 'it returns false'. Refute it at one input. -/
def fnRulersWrong : ChangeSpec := { name := "fnRulers", fn := fun _ => fun
  | [d1, d2] => { results := [.lit (.bool false)], args := [d1, d2] }
  | _ => none }
def FnRulersWrongFalsely : Prop := fnRulersRow.holds Try.pinned (OpenSpec.ofChange fnRulersWrong)

/-- 'laws.FnExactBoxOfPlaces': WHATEVER THE INPUT: true; the input reads as it did. -/
def fnExactBoxOfPlacesSpec : ChangeSpec := { name := "fnExactBoxOfPlaces", fn := fun _ => fun
  | [d] => { results := [.lit (.bool true)], args := [d] }
  | _ => none }
def fnExactBoxOfPlacesRow : OpenClaim := { program := "ythnifmgjgdmmoab", sum := "4f873ebe3d74eda7f123435cf634db39b82c209d0b194d3bf8ee1181c08d53c4", func := "loop.example/g01181/laws.FnExactBoxOfPlaces", spec := "fnExactBoxOfPlaces", plainKeys := false, apart := false }
def FnExactBoxOfPlacesSaid : Prop := fnExactBoxOfPlacesRow.holds Try.pinned (OpenSpec.ofChange fnExactBoxOfPlacesSpec)

/-- ITS FALSE NEIGHBOUR: 'it returns false'. Refute it at one input. -/
def fnExactBoxOfPlacesWrong : ChangeSpec := { name := "fnExactBoxOfPlaces", fn := fun _ => fun
  | [d] => { results := [.lit (.bool false)], args := [d] }
  | _ => none }
def FnExactBoxOfPlacesWrongFalsely : Prop := fnExactBoxOfPlacesRow.holds Try.pinned (OpenSpec.ofChange fnExactBoxOfPlacesWrong)

/-- 'laws.FnExactRingPlaces': WHATEVER THE INPUT: true; the input reads as it did. -/
def fnExactRingPlacesSpec : ChangeSpec := { name := "fnExactRingPlaces", fn := fun _ => fun
  | [d1, d2] => { results := [.lit (.bool true)], args := [d1, d2] }
  | _ => none }
def fnExactRingPlacesRow : OpenClaim := { program := "ythnifmgjgdmmoab", sum := "4f873ebe3d74eda7f123435cf634db39b82c209d0b194d3bf8ee1181c08d53c4", func := "loop.example/g01181/laws.FnExactRingPlaces", spec := "fnExactRingPlaces", inPlace := ["math.Float32frombits", "math.Float64frombits", "math.RoundToEven", "math.Float64bits"], plainKeys := false, apart := false }
def FnExactRingPlacesSaid : Prop := fnExactRingPlacesRow.holds Try.pinned (OpenSpec.ofChange fnExactRingPlacesSpec)

/-- ITS FALSE NEIGHBOUR: 'it returns false'. Refute it at one input. -/
def fnExactRingPlacesWrong : ChangeSpec := { name := "fnExactRingPlaces", fn := fun _ => fun
  | [d1, d2] => { results := [.lit (.bool false)], args := [d1, d2] }
  | _ => none }
def FnExactRingPlacesWrongFalsely : Prop := fnExactRingPlacesRow.holds Try.pinned (OpenSpec.ofChange fnExactRingPlacesWrong)

/-- 'laws.FnExactShortestRuler': WHATEVER THE INPUT: true; the input reads as it did. -/
def fnExactShortestRulerSpec : ChangeSpec := { name := "fnExactShortestRuler", fn := fun _ => fun
  | [d] => { results := [.lit (.bool true)], args := [d] }
  | _ => none }
def fnExactShortestRulerRow : OpenClaim := { program := "ythnifmgjgdmmoab", sum := "4f873ebe3d74eda7f123435cf634db39b82c209d0b194d3bf8ee1181c08d53c4", func := "loop.example/g01181/laws.FnExactShortestRuler", spec := "fnExactShortestRuler", unfollowed := true, recurses := true, plainKeys := false, apart := false }
def FnExactShortestRulerSaid : Prop := fnExactShortestRulerRow.holds Try.pinned (OpenSpec.ofChange fnExactShortestRulerSpec)

/-- ITS FALSE NEIGHBOUR: 'it returns false'. Refute it at one input. -/
def fnExactShortestRulerWrong : ChangeSpec := { name := "fnExactShortestRuler", fn := fun _ => fun
  | [d] => { results := [.lit (.bool false)], args := [d] }
  | _ => none }
def FnExactShortestRulerWrongFalsely : Prop := fnExactShortestRulerRow.holds Try.pinned (OpenSpec.ofChange fnExactShortestRulerWrong)

/-- 'laws.FnExactFewestMarks': WHATEVER THE INPUT: true; the input reads as it did. -/
def fnExactFewestMarksSpec : ChangeSpec := { name := "fnExactFewestMarks", fn := fun _ => fun
  | [d] => { results := [.lit (.bool true)], args := [d] }
  | _ => none }
def fnExactFewestMarksRow : OpenClaim := { program := "ythnifmgjgdmmoab", sum := "4f873ebe3d74eda7f123435cf634db39b82c209d0b194d3bf8ee1181c08d53c4", func := "loop.example/g01181/laws.FnExactFewestMarks", spec := "fnExactFewestMarks", unfollowed := true, recurses := true, plainKeys := false, apart := false }
def FnExactFewestMarksSaid : Prop := fnExactFewestMarksRow.holds Try.pinned (OpenSpec.ofChange fnExactFewestMarksSpec)

/-- ITS FALSE NEIGHBOUR: 'it returns false'. Refute it at one input. -/
def fnExactFewestMarksWrong : ChangeSpec := { name := "fnExactFewestMarks", fn := fun _ => fun
  | [d] => { results := [.lit (.bool false)], args := [d] }
  | _ => none }
def FnExactFewestMarksWrongFalsely : Prop := fnExactFewestMarksRow.holds Try.pinned (OpenSpec.ofChange fnExactFewestMarksWrong)

/- THE SECOND FORM. 'bulk': how many values and letters a reading holds, each counted each time it is reached (what is shared counts as often as it is met; a slice's spare places count too). A statement '..UptoSaid' is the law's where the arguments, and the package variables that the reading takes, are together of bulk at most 1048576: NARROWER than '..Said'. Prove '..Said' where nothing that the law and all that it calls make is longer than what came in: it says more and counts as full. Else prove '..UptoSaid'. A law counts once. -/
mutual
def uptoBulk {H : Type} : DataW H → Nat
  | .lit (.string bytes) => bytes.length + 1
  | .lit _ => 1
  | .nil => 1
  | .ptr d => uptoBulk d + 1
  | .slice elems spare => uptoBulkAll elems + uptoBulkAll spare + 1
  | .agg parts => uptoBulkAll parts + 1
  | .iface _ d => uptoBulk d + 1
  | .map entries => uptoBulkEntries entries + 1
  | .held _ => 1
def uptoBulkAll {H : Type} : List (DataW H) → Nat
  | [] => 0
  | d :: r => uptoBulk d + uptoBulkAll r
def uptoBulkEntries {H : Type} : List (Lit × DataW H) → Nat
  | [] => 0
  | x :: r => uptoBulkEntry x + uptoBulkEntries r
def uptoBulkEntry {H : Type} : Lit × DataW H → Nat
  | (.string bytes, d) => bytes.length + uptoBulk d + 1
  | (_, d) => uptoBulk d + 1
 end
def uptoSmall : (H : Type) → List (DataW H) → Bool := fun _ ds => decide (uptoBulkAll ds ≤ 1048576)
def OpenSpec.upto (s : _root_.Go.ChangeSpec) : _root_.Go.OpenSpec := { _root_.Go.OpenSpec.ofChange s with cond := some uptoSmall }

/-- 'laws.FnPatterns', WHERE WHAT IT READS IS OF BULK AT MOST 1048576: true; the input reads as it did. -/
def fnPatternsUptoRow : OpenClaim := { program := "ythnifmgjgdmmoab", sum := "4f873ebe3d74eda7f123435cf634db39b82c209d0b194d3bf8ee1181c08d53c4", func := "loop.example/g01181/laws.FnPatterns", spec := "fnPatterns", inPlace := ["math.Float64bits", "math.Float64frombits", "math.sqrt", "math.Float32bits"], unfollowed := true, recurses := true, plainKeys := false, apart := false, narrowed := true }
def FnPatternsUptoSaid : Prop := fnPatternsUptoRow.holds Try.pinned (OpenSpec.upto fnPatternsSpec)

/-- 'laws.FnSky', WHERE WHAT IT READS IS OF BULK AT MOST 1048576: true; the input reads as it did. -/
def fnSkyUptoRow : OpenClaim := { program := "ythnifmgjgdmmoab", sum := "4f873ebe3d74eda7f123435cf634db39b82c209d0b194d3bf8ee1181c08d53c4", func := "loop.example/g01181/laws.FnSky", spec := "fnSky", inPlace := ["math.Float64bits", "math.Float64frombits", "math.Float32bits"], unfollowed := true, recurses := true, plainKeys := false, apart := false, narrowed := true }
def FnSkyUptoSaid : Prop := fnSkyUptoRow.holds Try.pinned (OpenSpec.upto fnSkySpec)

/-- 'laws.FnCircles', WHERE WHAT IT READS IS OF BULK AT MOST 1048576: true; the input reads as it did. -/
def fnCirclesUptoRow : OpenClaim := { program := "ythnifmgjgdmmoab", sum := "4f873ebe3d74eda7f123435cf634db39b82c209d0b194d3bf8ee1181c08d53c4", func := "loop.example/g01181/laws.FnCircles", spec := "fnCircles", inPlace := ["math.Float64bits", "math.Float64frombits", "math.sqrt", "math.archFloor", "math.archTrunc", "math.Float32bits"], plainKeys := false, apart := false, narrowed := true }
def FnCirclesUptoSaid : Prop := fnCirclesUptoRow.holds Try.pinned (OpenSpec.upto fnCirclesSpec)

/-- 'laws.FnSteered', WHERE WHAT IT READS IS OF BULK AT MOST 1048576: true; the input reads as it did. -/
def fnSteeredUptoRow : OpenClaim := { program := "ythnifmgjgdmmoab", sum := "4f873ebe3d74eda7f123435cf634db39b82c209d0b194d3bf8ee1181c08d53c4", func := "loop.example/g01181/laws.FnSteered", spec := "fnSteered", inPlace := ["math.Float64bits", "math.Float64frombits", "math.sqrt"], plainKeys := false, apart := false, narrowed := true }
def FnSteeredUptoSaid : Prop := fnSteeredUptoRow.holds Try.pinned (OpenSpec.upto fnSteeredSpec)

/-- 'laws.FnTwins', WHERE WHAT IT READS IS OF BULK AT MOST 1048576: true; the input reads as it did. -/
def fnTwinsUptoRow : OpenClaim := { program := "ythnifmgjgdmmoab", sum := "4f873ebe3d74eda7f123435cf634db39b82c209d0b194d3bf8ee1181c08d53c4", func := "loop.example/g01181/laws.FnTwins", spec := "fnTwins", inPlace := ["math.Float64bits", "math.Float64frombits", "math.Float32bits"], plainKeys := false, apart := false, narrowed := true }
def FnTwinsUptoSaid : Prop := fnTwinsUptoRow.holds Try.pinned (OpenSpec.upto fnTwinsSpec)

/-- 'laws.FnShapes', WHERE WHAT IT READS IS OF BULK AT MOST 1048576: true; the input reads as it did. -/
def fnShapesUptoRow : OpenClaim := { program := "ythnifmgjgdmmoab", sum := "4f873ebe3d74eda7f123435cf634db39b82c209d0b194d3bf8ee1181c08d53c4", func := "loop.example/g01181/laws.FnShapes", spec := "fnShapes", inPlace := ["math.Float64bits", "math.Float64frombits", "math.RoundToEven"], plainKeys := false, apart := false, narrowed := true }
def FnShapesUptoSaid : Prop := fnShapesUptoRow.holds Try.pinned (OpenSpec.upto fnShapesSpec)

/-- 'laws.FnRulers', WHERE WHAT IT READS IS OF BULK AT MOST 1048576: true; the input reads as it did. -/
def fnRulersUptoRow : OpenClaim := { program := "ythnifmgjgdmmoab", sum := "4f873ebe3d74eda7f123435cf634db39b82c209d0b194d3bf8ee1181c08d53c4", func := "loop.example/g01181/laws.FnRulers", spec := "fnRulers", unfollowed := true, recurses := true, plainKeys := false, apart := false, narrowed := true }
def FnRulersUptoSaid : Prop := fnRulersUptoRow.holds Try.pinned (OpenSpec.upto fnRulersSpec)

/-- 'laws.FnExactBoxOfPlaces', WHERE WHAT IT READS IS OF BULK AT MOST 1048576: true; the input reads as it did. -/
def fnExactBoxOfPlacesUptoRow : OpenClaim := { program := "ythnifmgjgdmmoab", sum := "4f873ebe3d74eda7f123435cf634db39b82c209d0b194d3bf8ee1181c08d53c4", func := "loop.example/g01181/laws.FnExactBoxOfPlaces", spec := "fnExactBoxOfPlaces", plainKeys := false, apart := false, narrowed := true }
def FnExactBoxOfPlacesUptoSaid : Prop := fnExactBoxOfPlacesUptoRow.holds Try.pinned (OpenSpec.upto fnExactBoxOfPlacesSpec)

/-- 'laws.FnExactRingPlaces', WHERE WHAT IT READS IS OF BULK AT MOST 1048576: true; the input reads as it did. -/
def fnExactRingPlacesUptoRow : OpenClaim := { program := "ythnifmgjgdmmoab", sum := "4f873ebe3d74eda7f123435cf634db39b82c209d0b194d3bf8ee1181c08d53c4", func := "loop.example/g01181/laws.FnExactRingPlaces", spec := "fnExactRingPlaces", inPlace := ["math.Float32frombits", "math.Float64frombits", "math.RoundToEven", "math.Float64bits"], plainKeys := false, apart := false, narrowed := true }
def FnExactRingPlacesUptoSaid : Prop := fnExactRingPlacesUptoRow.holds Try.pinned (OpenSpec.upto fnExactRingPlacesSpec)

/-- 'laws.FnExactShortestRuler', WHERE WHAT IT READS IS OF BULK AT MOST 1048576: true; the input reads as it did. -/
def fnExactShortestRulerUptoRow : OpenClaim := { program := "ythnifmgjgdmmoab", sum := "4f873ebe3d74eda7f123435cf634db39b82c209d0b194d3bf8ee1181c08d53c4", func := "loop.example/g01181/laws.FnExactShortestRuler", spec := "fnExactShortestRuler", unfollowed := true, recurses := true, plainKeys := false, apart := false, narrowed := true }
def FnExactShortestRulerUptoSaid : Prop := fnExactShortestRulerUptoRow.holds Try.pinned (OpenSpec.upto fnExactShortestRulerSpec)

/-- 'laws.FnExactFewestMarks', WHERE WHAT IT READS IS OF BULK AT MOST 1048576: true; the input reads as it did. -/
def fnExactFewestMarksUptoRow : OpenClaim := { program := "ythnifmgjgdmmoab", sum := "4f873ebe3d74eda7f123435cf634db39b82c209d0b194d3bf8ee1181c08d53c4", func := "loop.example/g01181/laws.FnExactFewestMarks", spec := "fnExactFewestMarks", unfollowed := true, recurses := true, plainKeys := false, apart := false, narrowed := true }
def FnExactFewestMarksUptoSaid : Prop := fnExactFewestMarksUptoRow.holds Try.pinned (OpenSpec.upto fnExactFewestMarksSpec)

end Rows
end Go.Proofs.Ythnifmgjgdmmoab
