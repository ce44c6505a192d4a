/-
  No cell of these rows narrows 'for every input' (looked for: loops, veiled, ifaces, maps, wideKeys, modest, calm, conditions, laid).
  DERIVED. THE GIVEN ROWS OF THIS SEAT. 11 by the template 'for every input the law returns true; each argument reads behind the call as it read before'; 0 by the template 'total and deterministic' (their statements: YtjmgohlepglkoabTotals.lean).
  GIVEN WITH THE SEED: the statements are not yours to turn. If you find one false, say at which input.
  Laid BY PROGRAM, IN A SANDBOX (cutbox-rows.mjs): the forced cells as the released guide's own fill.sh prints them over the translation 374464ccbb141055… (all of the seat's roots in one cut). By AI agents, Wed Nov 11 2026. No macro, syntax, notation, axiom, sorry.
-/
import Derived.Test.YtjmgohlepglkoabChecked
import GoSem.Claim
import GoSem.ClaimJoined
import GoSem.ClaimMapViews
import Derived.JoinedTies
import Derived.KernelRfl
namespace Go.Proofs.Ytjmgohlepglkoab
/- THE CELL 'sum', in the pinned program and in every row, IS THE sha256 OF THE DUMP (.gsa) THAT YtjmgohlepglkoabProg.lean LOADS. Nothing in Lean hashes anything: it is a label: what it is worth is what the hold of that sum in a sandbox is worth. -/
noncomputable def Try.pinned : Pinned := { name := "ytjmgohlepglkoab", sum := "374464ccbb14105560e509b1f45c6702909d543ef3385ab5ee841074d92417de", checked := Try.checked }
namespace Rows
def none {H : Type} : Left H := { results := [], args := [] }

/-- 'laws.FnTapers': WHATEVER THE INPUT: true; the input reads as it did. -/
def fnTapersSpec : ChangeSpec := { name := "fnTapers", fn := fun _ => fun
  | [d1, d2] => { results := [.lit (.bool true)], args := [d1, d2] }
  | _ => none }
def fnTapersRow : OpenClaim := { program := "ytjmgohlepglkoab", sum := "374464ccbb14105560e509b1f45c6702909d543ef3385ab5ee841074d92417de", func := "loop.example/g01181/laws.FnTapers", spec := "fnTapers", inPlace := ["math.Float64bits", "math.Float64frombits"], unfollowed := true, recurses := true, plainKeys := false, apart := false }
def FnTapersSaid : Prop := fnTapersRow.holds Try.pinned (OpenSpec.ofChange fnTapersSpec)

/-- ITS FALSE NEIGHBOUR: 'it returns false'. Refute it at one input. -/
def fnTapersWrong : ChangeSpec := { name := "fnTapers", fn := fun _ => fun
  | [d1, d2] => { results := [.lit (.bool false)], args := [d1, d2] }
  | _ => none }
def FnTapersWrongFalsely : Prop := fnTapersRow.holds Try.pinned (OpenSpec.ofChange fnTapersWrong)

/-- 'laws.FnNormed': WHATEVER THE INPUT: true; the input reads as it did. -/
def fnNormedSpec : ChangeSpec := { name := "fnNormed", fn := fun _ => fun
  | [d1, d2] => { results := [.lit (.bool true)], args := [d1, d2] }
  | _ => none }
def fnNormedRow : OpenClaim := { program := "ytjmgohlepglkoab", sum := "374464ccbb14105560e509b1f45c6702909d543ef3385ab5ee841074d92417de", func := "loop.example/g01181/laws.FnNormed", spec := "fnNormed", inPlace := ["math.sqrt", "math.Float64bits", "math.Float64frombits", "math.Float32bits"], unfollowed := true, recurses := true, plainKeys := false, apart := false }
def FnNormedSaid : Prop := fnNormedRow.holds Try.pinned (OpenSpec.ofChange fnNormedSpec)

/-- ITS FALSE NEIGHBOUR: 'it returns false'. Refute it at one input. -/
def fnNormedWrong : ChangeSpec := { name := "fnNormed", fn := fun _ => fun
  | [d1, d2] => { results := [.lit (.bool false)], args := [d1, d2] }
  | _ => none }
def FnNormedWrongFalsely : Prop := fnNormedRow.holds Try.pinned (OpenSpec.ofChange fnNormedWrong)

/-- 'laws.FnPolynomials': WHATEVER THE INPUT: true; the input reads as it did. -/
def fnPolynomialsSpec : ChangeSpec := { name := "fnPolynomials", fn := fun _ => fun
  | [d1, d2] => { results := [.lit (.bool true)], args := [d1, d2] }
  | _ => none }
def fnPolynomialsRow : OpenClaim := { program := "ytjmgohlepglkoab", sum := "374464ccbb14105560e509b1f45c6702909d543ef3385ab5ee841074d92417de", func := "loop.example/g01181/laws.FnPolynomials", spec := "fnPolynomials", unfollowed := true, recurses := true, plainKeys := false, apart := false }
def FnPolynomialsSaid : Prop := fnPolynomialsRow.holds Try.pinned (OpenSpec.ofChange fnPolynomialsSpec)

/-- ITS FALSE NEIGHBOUR: 'it returns false'. Refute it at one input. -/
def fnPolynomialsWrong : ChangeSpec := { name := "fnPolynomials", fn := fun _ => fun
  | [d1, d2] => { results := [.lit (.bool false)], args := [d1, d2] }
  | _ => none }
def FnPolynomialsWrongFalsely : Prop := fnPolynomialsRow.holds Try.pinned (OpenSpec.ofChange fnPolynomialsWrong)

/-- 'laws.FnNulls': WHATEVER THE INPUT: true; the input reads as it did. -/
def fnNullsSpec : ChangeSpec := { name := "fnNulls", fn := fun _ => fun
  | [d1, d2] => { results := [.lit (.bool true)], args := [d1, d2] }
  | _ => none }
def fnNullsRow : OpenClaim := { program := "ytjmgohlepglkoab", sum := "374464ccbb14105560e509b1f45c6702909d543ef3385ab5ee841074d92417de", func := "loop.example/g01181/laws.FnNulls", spec := "fnNulls", inPlace := ["math.Float64bits", "math.Float64frombits", "math.sqrt"], unfollowed := true, recurses := true, plainKeys := false, apart := false }
def FnNullsSaid : Prop := fnNullsRow.holds Try.pinned (OpenSpec.ofChange fnNullsSpec)

/-- ITS FALSE NEIGHBOUR: 'it returns false'. Refute it at one input. -/
def fnNullsWrong : ChangeSpec := { name := "fnNulls", fn := fun _ => fun
  | [d1, d2] => { results := [.lit (.bool false)], args := [d1, d2] }
  | _ => none }
def FnNullsWrongFalsely : Prop := fnNullsRow.holds Try.pinned (OpenSpec.ofChange fnNullsWrong)

/-- 'laws.FnRoundedPhases': WHATEVER THE INPUT: true; the input reads as it did. -/
def fnRoundedPhasesSpec : ChangeSpec := { name := "fnRoundedPhases", fn := fun _ => fun
  | [d1, d2] => { results := [.lit (.bool true)], args := [d1, d2] }
  | _ => none }
def fnRoundedPhasesRow : OpenClaim := { program := "ytjmgohlepglkoab", sum := "374464ccbb14105560e509b1f45c6702909d543ef3385ab5ee841074d92417de", func := "loop.example/g01181/laws.FnRoundedPhases", spec := "fnRoundedPhases", inPlace := ["math.Float64bits", "math.Float64frombits", "math.sqrt", "math.RoundToEven", "math.Float32bits"], plainKeys := false, apart := false }
def FnRoundedPhasesSaid : Prop := fnRoundedPhasesRow.holds Try.pinned (OpenSpec.ofChange fnRoundedPhasesSpec)

/-- ITS FALSE NEIGHBOUR: 'it returns false'. Refute it at one input. -/
def fnRoundedPhasesWrong : ChangeSpec := { name := "fnRoundedPhases", fn := fun _ => fun
  | [d1, d2] => { results := [.lit (.bool false)], args := [d1, d2] }
  | _ => none }
def FnRoundedPhasesWrongFalsely : Prop := fnRoundedPhasesRow.holds Try.pinned (OpenSpec.ofChange fnRoundedPhasesWrong)

/-- 'laws.FnCircles': WHATEVER THE INPUT: true; the input reads as it did. -/
def fnCirclesSpec : ChangeSpec := { name := "fnCircles", fn := fun _ => fun
  | [d1, d2] => { results := [.lit (.bool true)], args := [d1, d2] }
  | _ => none }
def fnCirclesRow : OpenClaim := { program := "ytjmgohlepglkoab", sum := "374464ccbb14105560e509b1f45c6702909d543ef3385ab5ee841074d92417de", func := "loop.example/g01181/laws.FnCircles", spec := "fnCircles", inPlace := ["math.Float64bits", "math.Float64frombits", "math.sqrt", "math.archFloor", "math.archTrunc", "math.Float32bits"], plainKeys := false, apart := false }
def FnCirclesSaid : Prop := fnCirclesRow.holds Try.pinned (OpenSpec.ofChange fnCirclesSpec)

/-- ITS FALSE NEIGHBOUR: 'it returns false'. Refute it at one input. -/
def fnCirclesWrong : ChangeSpec := { name := "fnCircles", fn := fun _ => fun
  | [d1, d2] => { results := [.lit (.bool false)], args := [d1, d2] }
  | _ => none }
def FnCirclesWrongFalsely : Prop := fnCirclesRow.holds Try.pinned (OpenSpec.ofChange fnCirclesWrong)

/-- 'laws.FnPatterns': WHATEVER THE INPUT: true; the input reads as it did. -/
def fnPatternsSpec : ChangeSpec := { name := "fnPatterns", fn := fun _ => fun
  | [d1, d2] => { results := [.lit (.bool true)], args := [d1, d2] }
  | _ => none }
def fnPatternsRow : OpenClaim := { program := "ytjmgohlepglkoab", sum := "374464ccbb14105560e509b1f45c6702909d543ef3385ab5ee841074d92417de", func := "loop.example/g01181/laws.FnPatterns", spec := "fnPatterns", inPlace := ["math.Float64bits", "math.Float64frombits", "math.sqrt", "math.Float32bits"], unfollowed := true, recurses := true, plainKeys := false, apart := false }
def FnPatternsSaid : Prop := fnPatternsRow.holds Try.pinned (OpenSpec.ofChange fnPatternsSpec)

/-- ITS FALSE NEIGHBOUR: 'it returns false'. Refute it at one input. -/
def fnPatternsWrong : ChangeSpec := { name := "fnPatterns", fn := fun _ => fun
  | [d1, d2] => { results := [.lit (.bool false)], args := [d1, d2] }
  | _ => none }
def FnPatternsWrongFalsely : Prop := fnPatternsRow.holds Try.pinned (OpenSpec.ofChange fnPatternsWrong)

/-- 'laws.FnCuts': WHATEVER THE INPUT: true; the input reads as it did. -/
def fnCutsSpec : ChangeSpec := { name := "fnCuts", fn := fun _ => fun
  | [d1, d2] => { results := [.lit (.bool true)], args := [d1, d2] }
  | _ => none }
def fnCutsRow : OpenClaim := { program := "ytjmgohlepglkoab", sum := "374464ccbb14105560e509b1f45c6702909d543ef3385ab5ee841074d92417de", func := "loop.example/g01181/laws.FnCuts", spec := "fnCuts", inPlace := ["math.Float64bits", "math.Float64frombits", "math.Float32bits", "math.archFloor", "math.archTrunc"], unfollowed := true, recurses := true, plainKeys := false, apart := false }
def FnCutsSaid : Prop := fnCutsRow.holds Try.pinned (OpenSpec.ofChange fnCutsSpec)

/-- ITS FALSE NEIGHBOUR: 'it returns false'. Refute it at one input. -/
def fnCutsWrong : ChangeSpec := { name := "fnCuts", fn := fun _ => fun
  | [d1, d2] => { results := [.lit (.bool false)], args := [d1, d2] }
  | _ => none }
def FnCutsWrongFalsely : Prop := fnCutsRow.holds Try.pinned (OpenSpec.ofChange fnCutsWrong)

/-- 'laws.FnSky': WHATEVER THE INPUT: true; the input reads as it did. -/
def fnSkySpec : ChangeSpec := { name := "fnSky", fn := fun _ => fun
  | [d1, d2] => { results := [.lit (.bool true)], args := [d1, d2] }
  | _ => none }
def fnSkyRow : OpenClaim := { program := "ytjmgohlepglkoab", sum := "374464ccbb14105560e509b1f45c6702909d543ef3385ab5ee841074d92417de", func := "loop.example/g01181/laws.FnSky", spec := "fnSky", inPlace := ["math.Float64bits", "math.Float64frombits", "math.Float32bits"], unfollowed := true, recurses := true, plainKeys := false, apart := false }
def FnSkySaid : Prop := fnSkyRow.holds Try.pinned (OpenSpec.ofChange fnSkySpec)

/-- ITS FALSE NEIGHBOUR: 'it returns false'. Refute it at one input. -/
def fnSkyWrong : ChangeSpec := { name := "fnSky", fn := fun _ => fun
  | [d1, d2] => { results := [.lit (.bool false)], args := [d1, d2] }
  | _ => none }
def FnSkyWrongFalsely : Prop := fnSkyRow.holds Try.pinned (OpenSpec.ofChange fnSkyWrong)

/-- 'laws.FnSteered': WHATEVER THE INPUT: true; the input reads as it did. -/
def fnSteeredSpec : ChangeSpec := { name := "fnSteered", fn := fun _ => fun
  | [d1, d2] => { results := [.lit (.bool true)], args := [d1, d2] }
  | _ => none }
def fnSteeredRow : OpenClaim := { program := "ytjmgohlepglkoab", sum := "374464ccbb14105560e509b1f45c6702909d543ef3385ab5ee841074d92417de", func := "loop.example/g01181/laws.FnSteered", spec := "fnSteered", inPlace := ["math.Float64bits", "math.Float64frombits", "math.sqrt"], plainKeys := false, apart := false }
def FnSteeredSaid : Prop := fnSteeredRow.holds Try.pinned (OpenSpec.ofChange fnSteeredSpec)

/-- ITS FALSE NEIGHBOUR: 'it returns false'. Refute it at one input. -/
def fnSteeredWrong : ChangeSpec := { name := "fnSteered", fn := fun _ => fun
  | [d1, d2] => { results := [.lit (.bool false)], args := [d1, d2] }
  | _ => none }
def FnSteeredWrongFalsely : Prop := fnSteeredRow.holds Try.pinned (OpenSpec.ofChange fnSteeredWrong)

/-- 'laws.FnTwins': WHATEVER THE INPUT: true; the input reads as it did. -/
def fnTwinsSpec : ChangeSpec := { name := "fnTwins", fn := fun _ => fun
  | [d1, d2] => { results := [.lit (.bool true)], args := [d1, d2] }
  | _ => none }
def fnTwinsRow : OpenClaim := { program := "ytjmgohlepglkoab", sum := "374464ccbb14105560e509b1f45c6702909d543ef3385ab5ee841074d92417de", func := "loop.example/g01181/laws.FnTwins", spec := "fnTwins", inPlace := ["math.Float64bits", "math.Float64frombits", "math.Float32bits"], plainKeys := false, apart := false }
def FnTwinsSaid : Prop := fnTwinsRow.holds Try.pinned (OpenSpec.ofChange fnTwinsSpec)

/-- ITS FALSE NEIGHBOUR: 'it returns false'. Refute it at one input. -/
def fnTwinsWrong : ChangeSpec := { name := "fnTwins", fn := fun _ => fun
  | [d1, d2] => { results := [.lit (.bool false)], args := [d1, d2] }
  | _ => none }
def FnTwinsWrongFalsely : Prop := fnTwinsRow.holds Try.pinned (OpenSpec.ofChange fnTwinsWrong)

/- THE SECOND FORM. 'bulk': how many values and letters a reading holds, each counted each time it is reached (what is shared counts as often as it is met; a slice's spare places count too). A statement '..UptoSaid' is the law's where the arguments, and the package variables that the reading takes, are together of bulk at most 1048576: NARROWER than '..Said'. Prove '..Said' where nothing that the law and all that it calls make is longer than what came in: it says more and counts as full. Else prove '..UptoSaid'. A law counts once. -/
mutual
def uptoBulk {H : Type} : DataW H → Nat
  | .lit (.string bytes) => bytes.length + 1
  | .lit _ => 1
  | .nil => 1
  | .ptr d => uptoBulk d + 1
  | .slice elems spare => uptoBulkAll elems + uptoBulkAll spare + 1
  | .agg parts => uptoBulkAll parts + 1
  | .iface _ d => uptoBulk d + 1
  | .map entries => uptoBulkEntries entries + 1
  | .held _ => 1
def uptoBulkAll {H : Type} : List (DataW H) → Nat
  | [] => 0
  | d :: r => uptoBulk d + uptoBulkAll r
def uptoBulkEntries {H : Type} : List (Lit × DataW H) → Nat
  | [] => 0
  | x :: r => uptoBulkEntry x + uptoBulkEntries r
def uptoBulkEntry {H : Type} : Lit × DataW H → Nat
  | (.string bytes, d) => bytes.length + uptoBulk d + 1
  | (_, d) => uptoBulk d + 1
 end
def uptoSmall : (H : Type) → List (DataW H) → Bool := fun _ ds => decide (uptoBulkAll ds ≤ 1048576)
def OpenSpec.upto (s : _root_.Go.ChangeSpec) : _root_.Go.OpenSpec := { _root_.Go.OpenSpec.ofChange s with cond := some uptoSmall }

/-- 'laws.FnTapers', WHERE WHAT IT READS IS OF BULK AT MOST 1048576: true; the input reads as it did. -/
def fnTapersUptoRow : OpenClaim := { program := "ytjmgohlepglkoab", sum := "374464ccbb14105560e509b1f45c6702909d543ef3385ab5ee841074d92417de", func := "loop.example/g01181/laws.FnTapers", spec := "fnTapers", inPlace := ["math.Float64bits", "math.Float64frombits"], unfollowed := true, recurses := true, plainKeys := false, apart := false, narrowed := true }
def FnTapersUptoSaid : Prop := fnTapersUptoRow.holds Try.pinned (OpenSpec.upto fnTapersSpec)

/-- 'laws.FnNormed', WHERE WHAT IT READS IS OF BULK AT MOST 1048576: true; the input reads as it did. -/
def fnNormedUptoRow : OpenClaim := { program := "ytjmgohlepglkoab", sum := "374464ccbb14105560e509b1f45c6702909d543ef3385ab5ee841074d92417de", func := "loop.example/g01181/laws.FnNormed", spec := "fnNormed", inPlace := ["math.sqrt", "math.Float64bits", "math.Float64frombits", "math.Float32bits"], unfollowed := true, recurses := true, plainKeys := false, apart := false, narrowed := true }
def FnNormedUptoSaid : Prop := fnNormedUptoRow.holds Try.pinned (OpenSpec.upto fnNormedSpec)

/-- 'laws.FnPolynomials', WHERE WHAT IT READS IS OF BULK AT MOST 1048576: true; the input reads as it did. -/
def fnPolynomialsUptoRow : OpenClaim := { program := "ytjmgohlepglkoab", sum := "374464ccbb14105560e509b1f45c6702909d543ef3385ab5ee841074d92417de", func := "loop.example/g01181/laws.FnPolynomials", spec := "fnPolynomials", unfollowed := true, recurses := true, plainKeys := false, apart := false, narrowed := true }
def FnPolynomialsUptoSaid : Prop := fnPolynomialsUptoRow.holds Try.pinned (OpenSpec.upto fnPolynomialsSpec)

/-- 'laws.FnNulls', WHERE WHAT IT READS IS OF BULK AT MOST 1048576: true; the input reads as it did. -/
def fnNullsUptoRow : OpenClaim := { program := "ytjmgohlepglkoab", sum := "374464ccbb14105560e509b1f45c6702909d543ef3385ab5ee841074d92417de", func := "loop.example/g01181/laws.FnNulls", spec := "fnNulls", inPlace := ["math.Float64bits", "math.Float64frombits", "math.sqrt"], unfollowed := true, recurses := true, plainKeys := false, apart := false, narrowed := true }
def FnNullsUptoSaid : Prop := fnNullsUptoRow.holds Try.pinned (OpenSpec.upto fnNullsSpec)

/-- 'laws.FnRoundedPhases', WHERE WHAT IT READS IS OF BULK AT MOST 1048576: true; the input reads as it did. -/
def fnRoundedPhasesUptoRow : OpenClaim := { program := "ytjmgohlepglkoab", sum := "374464ccbb14105560e509b1f45c6702909d543ef3385ab5ee841074d92417de", func := "loop.example/g01181/laws.FnRoundedPhases", spec := "fnRoundedPhases", inPlace := ["math.Float64bits", "math.Float64frombits", "math.sqrt", "math.RoundToEven", "math.Float32bits"], plainKeys := false, apart := false, narrowed := true }
def FnRoundedPhasesUptoSaid : Prop := fnRoundedPhasesUptoRow.holds Try.pinned (OpenSpec.upto fnRoundedPhasesSpec)

/-- 'laws.FnCircles', WHERE WHAT IT READS IS OF BULK AT MOST 1048576: true; the input reads as it did. -/
def fnCirclesUptoRow : OpenClaim := { program := "ytjmgohlepglkoab", sum := "374464ccbb14105560e509b1f45c6702909d543ef3385ab5ee841074d92417de", func := "loop.example/g01181/laws.FnCircles", spec := "fnCircles", inPlace := ["math.Float64bits", "math.Float64frombits", "math.sqrt", "math.archFloor", "math.archTrunc", "math.Float32bits"], plainKeys := false, apart := false, narrowed := true }
def FnCirclesUptoSaid : Prop := fnCirclesUptoRow.holds Try.pinned (OpenSpec.upto fnCirclesSpec)

/-- 'laws.FnPatterns', WHERE WHAT IT READS IS OF BULK AT MOST 1048576: true; the input reads as it did. -/
def fnPatternsUptoRow : OpenClaim := { program := "ytjmgohlepglkoab", sum := "374464ccbb14105560e509b1f45c6702909d543ef3385ab5ee841074d92417de", func := "loop.example/g01181/laws.FnPatterns", spec := "fnPatterns", inPlace := ["math.Float64bits", "math.Float64frombits", "math.sqrt", "math.Float32bits"], unfollowed := true, recurses := true, plainKeys := false, apart := false, narrowed := true }
def FnPatternsUptoSaid : Prop := fnPatternsUptoRow.holds Try.pinned (OpenSpec.upto fnPatternsSpec)

/-- 'laws.FnCuts', WHERE WHAT IT READS IS OF BULK AT MOST 1048576: true; the input reads as it did. -/
def fnCutsUptoRow : OpenClaim := { program := "ytjmgohlepglkoab", sum := "374464ccbb14105560e509b1f45c6702909d543ef3385ab5ee841074d92417de", func := "loop.example/g01181/laws.FnCuts", spec := "fnCuts", inPlace := ["math.Float64bits", "math.Float64frombits", "math.Float32bits", "math.archFloor", "math.archTrunc"], unfollowed := true, recurses := true, plainKeys := false, apart := false, narrowed := true }
def FnCutsUptoSaid : Prop := fnCutsUptoRow.holds Try.pinned (OpenSpec.upto fnCutsSpec)

/-- 'laws.FnSky', WHERE WHAT IT READS IS OF BULK AT MOST 1048576: true; the input reads as it did. -/
def fnSkyUptoRow : OpenClaim := { program := "ytjmgohlepglkoab", sum := "374464ccbb14105560e509b1f45c6702909d543ef3385ab5ee841074d92417de", func := "loop.example/g01181/laws.FnSky", spec := "fnSky", inPlace := ["math.Float64bits", "math.Float64frombits", "math.Float32bits"], unfollowed := true, recurses := true, plainKeys := false, apart := false, narrowed := true }
def FnSkyUptoSaid : Prop := fnSkyUptoRow.holds Try.pinned (OpenSpec.upto fnSkySpec)

/-- 'laws.FnSteered', WHERE WHAT IT READS IS OF BULK AT MOST 1048576: true; the input reads as it did. -/
def fnSteeredUptoRow : OpenClaim := { program := "ytjmgohlepglkoab", sum := "374464ccbb14105560e509b1f45c6702909d543ef3385ab5ee841074d92417de", func := "loop.example/g01181/laws.FnSteered", spec := "fnSteered", inPlace := ["math.Float64bits", "math.Float64frombits", "math.sqrt"], plainKeys := false, apart := false, narrowed := true }
def FnSteeredUptoSaid : Prop := fnSteeredUptoRow.holds Try.pinned (OpenSpec.upto fnSteeredSpec)

/-- 'laws.FnTwins', WHERE WHAT IT READS IS OF BULK AT MOST 1048576: true; the input reads as it did. -/
def fnTwinsUptoRow : OpenClaim := { program := "ytjmgohlepglkoab", sum := "374464ccbb14105560e509b1f45c6702909d543ef3385ab5ee841074d92417de", func := "loop.example/g01181/laws.FnTwins", spec := "fnTwins", inPlace := ["math.Float64bits", "math.Float64frombits", "math.Float32bits"], plainKeys := false, apart := false, narrowed := true }
def FnTwinsUptoSaid : Prop := fnTwinsUptoRow.holds Try.pinned (OpenSpec.upto fnTwinsSpec)

end Rows
end Go.Proofs.Ytjmgohlepglkoab
