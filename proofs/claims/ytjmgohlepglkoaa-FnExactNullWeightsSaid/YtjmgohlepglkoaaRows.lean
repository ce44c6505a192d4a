/-
  No cell of these rows narrows 'for every input' (looked for: loops, veiled, ifaces, maps, wideKeys, modest, calm, conditions, laid).
  DERIVED. THE GIVEN ROWS OF THIS SEAT. 10 by the template 'for every input the law returns true; each argument reads behind the call as it read before'; 0 by the template 'total and deterministic' (their statements: YtjmgohlepglkoaaTotals.lean).
  GIVEN WITH THE SEED: the statements are not yours to turn. If you find one false, say at which input.
  Laid BY PROGRAM, IN A SANDBOX (cutbox-rows.mjs): the forced cells as the released guide's own fill.sh prints them over the translation b7c786c4591d0974… (all of the seat's roots in one cut). By AI agents, Wed Nov 11 2026. No macro, syntax, notation, axiom, sorry.
-/
import Derived.Test.YtjmgohlepglkoaaChecked
import GoSem.Claim
import GoSem.ClaimJoined
import GoSem.ClaimMapViews
import Derived.JoinedTies
import Derived.KernelRfl
namespace Go.Proofs.Ytjmgohlepglkoaa
/- THE CELL 'sum', in the pinned program and in every row, IS THE sha256 OF THE DUMP (.gsa) THAT YtjmgohlepglkoaaProg.lean LOADS. Nothing in Lean hashes anything: it is a label: what it is worth is what the hold of that sum in a sandbox is worth. -/
noncomputable def Try.pinned : Pinned := { name := "ytjmgohlepglkoaa", sum := "b7c786c4591d0974ba11d9192cd9a657df3898c2239038304acbc9ccebc2ebab", checked := Try.checked }
namespace Rows
def none {H : Type} : Left H := { results := [], args := [] }

/-- 'laws.FnExactTaperOf': WHATEVER THE INPUT: true; the input reads as it did. -/
def fnExactTaperOfSpec : ChangeSpec := { name := "fnExactTaperOf", fn := fun _ => fun
  | [d1, d2] => { results := [.lit (.bool true)], args := [d1, d2] }
  | _ => none }
def fnExactTaperOfRow : OpenClaim := { program := "ytjmgohlepglkoaa", sum := "b7c786c4591d0974ba11d9192cd9a657df3898c2239038304acbc9ccebc2ebab", func := "loop.example/g01181/laws.FnExactTaperOf", spec := "fnExactTaperOf", inPlace := ["math.Float32frombits", "math.Float64frombits", "math.Float64bits"], unfollowed := true, recurses := true, plainKeys := false, apart := false }
def FnExactTaperOfSaid : Prop := fnExactTaperOfRow.holds Try.pinned (OpenSpec.ofChange fnExactTaperOfSpec)

/-- ITS FALSE NEIGHBOUR: 'it returns false'. Refute it at one input. -/
def fnExactTaperOfWrong : ChangeSpec := { name := "fnExactTaperOf", fn := fun _ => fun
  | [d1, d2] => { results := [.lit (.bool false)], args := [d1, d2] }
  | _ => none }
def FnExactTaperOfWrongFalsely : Prop := fnExactTaperOfRow.holds Try.pinned (OpenSpec.ofChange fnExactTaperOfWrong)

/-- 'laws.FnExactSteerWeights': WHATEVER THE INPUT: true; the input reads as it did. -/
def fnExactSteerWeightsSpec : ChangeSpec := { name := "fnExactSteerWeights", fn := fun _ => fun
  | [d1, d2, d3] => { results := [.lit (.bool true)], args := [d1, d2, d3] }
  | _ => none }
def fnExactSteerWeightsRow : OpenClaim := { program := "ytjmgohlepglkoaa", sum := "b7c786c4591d0974ba11d9192cd9a657df3898c2239038304acbc9ccebc2ebab", func := "loop.example/g01181/laws.FnExactSteerWeights", spec := "fnExactSteerWeights", inPlace := ["math.Float32frombits", "math.Float64frombits", "math.Float64bits"], plainKeys := false, apart := false }
def FnExactSteerWeightsSaid : Prop := fnExactSteerWeightsRow.holds Try.pinned (OpenSpec.ofChange fnExactSteerWeightsSpec)

/-- ITS FALSE NEIGHBOUR: 'it returns false'. Refute it at one input. -/
def fnExactSteerWeightsWrong : ChangeSpec := { name := "fnExactSteerWeights", fn := fun _ => fun
  | [d1, d2, d3] => { results := [.lit (.bool false)], args := [d1, d2, d3] }
  | _ => none }
def FnExactSteerWeightsWrongFalsely : Prop := fnExactSteerWeightsRow.holds Try.pinned (OpenSpec.ofChange fnExactSteerWeightsWrong)

/-- 'laws.FnExactNullWeights': WHATEVER THE INPUT: true; the input reads as it did. -/
def fnExactNullWeightsSpec : ChangeSpec := { name := "fnExactNullWeights", fn := fun _ => fun
  | [d1, d2] => { results := [.lit (.bool true)], args := [d1, d2] }
  | _ => none }
def fnExactNullWeightsRow : OpenClaim := { program := "ytjmgohlepglkoaa", sum := "b7c786c4591d0974ba11d9192cd9a657df3898c2239038304acbc9ccebc2ebab", func := "loop.example/g01181/laws.FnExactNullWeights", spec := "fnExactNullWeights", inPlace := ["math.Float32frombits", "math.Float64frombits", "math.Float64bits"], unfollowed := true, recurses := true, plainKeys := false, apart := false }
def FnExactNullWeightsSaid : Prop := fnExactNullWeightsRow.holds Try.pinned (OpenSpec.ofChange fnExactNullWeightsSpec)

/-- ITS FALSE NEIGHBOUR: 'it returns false'. Refute it at one input. -/
def fnExactNullWeightsWrong : ChangeSpec := { name := "fnExactNullWeights", fn := fun _ => fun
  | [d1, d2] => { results := [.lit (.bool false)], args := [d1, d2] }
  | _ => none }
def FnExactNullWeightsWrongFalsely : Prop := fnExactNullWeightsRow.holds Try.pinned (OpenSpec.ofChange fnExactNullWeightsWrong)

/-- 'laws.FnExactSideLevel': WHATEVER THE INPUT: true; the input reads as it did. -/
def fnExactSideLevelSpec : ChangeSpec := { name := "fnExactSideLevel", fn := fun _ => fun
  | [d1, d2] => { results := [.lit (.bool true)], args := [d1, d2] }
  | _ => none }
def fnExactSideLevelRow : OpenClaim := { program := "ytjmgohlepglkoaa", sum := "b7c786c4591d0974ba11d9192cd9a657df3898c2239038304acbc9ccebc2ebab", func := "loop.example/g01181/laws.FnExactSideLevel", spec := "fnExactSideLevel", unfollowed := true, recurses := true, plainKeys := false, apart := false }
def FnExactSideLevelSaid : Prop := fnExactSideLevelRow.holds Try.pinned (OpenSpec.ofChange fnExactSideLevelSpec)

/-- ITS FALSE NEIGHBOUR: 'it returns false'. Refute it at one input. -/
def fnExactSideLevelWrong : ChangeSpec := { name := "fnExactSideLevel", fn := fun _ => fun
  | [d1, d2] => { results := [.lit (.bool false)], args := [d1, d2] }
  | _ => none }
def FnExactSideLevelWrongFalsely : Prop := fnExactSideLevelRow.holds Try.pinned (OpenSpec.ofChange fnExactSideLevelWrong)

/-- 'laws.FnExactBoxOfPlaces': WHATEVER THE INPUT: true; the input reads as it did. -/
def fnExactBoxOfPlacesSpec : ChangeSpec := { name := "fnExactBoxOfPlaces", fn := fun _ => fun
  | [d] => { results := [.lit (.bool true)], args := [d] }
  | _ => none }
def fnExactBoxOfPlacesRow : OpenClaim := { program := "ytjmgohlepglkoaa", sum := "b7c786c4591d0974ba11d9192cd9a657df3898c2239038304acbc9ccebc2ebab", func := "loop.example/g01181/laws.FnExactBoxOfPlaces", spec := "fnExactBoxOfPlaces", plainKeys := false, apart := false }
def FnExactBoxOfPlacesSaid : Prop := fnExactBoxOfPlacesRow.holds Try.pinned (OpenSpec.ofChange fnExactBoxOfPlacesSpec)

/-- ITS FALSE NEIGHBOUR: 'it returns false'. Refute it at one input. -/
def fnExactBoxOfPlacesWrong : ChangeSpec := { name := "fnExactBoxOfPlaces", fn := fun _ => fun
  | [d] => { results := [.lit (.bool false)], args := [d] }
  | _ => none }
def FnExactBoxOfPlacesWrongFalsely : Prop := fnExactBoxOfPlacesRow.holds Try.pinned (OpenSpec.ofChange fnExactBoxOfPlacesWrong)

/-- 'laws.FnExactDifferencesOf': WHATEVER THE INPUT: true; the input reads as it did. -/
def fnExactDifferencesOfSpec : ChangeSpec := { name := "fnExactDifferencesOf", fn := fun _ => fun
  | [d] => { results := [.lit (.bool true)], args := [d] }
  | _ => none }
def fnExactDifferencesOfRow : OpenClaim := { program := "ytjmgohlepglkoaa", sum := "b7c786c4591d0974ba11d9192cd9a657df3898c2239038304acbc9ccebc2ebab", func := "loop.example/g01181/laws.FnExactDifferencesOf", spec := "fnExactDifferencesOf", unfollowed := true, recurses := true, plainKeys := false, apart := false }
def FnExactDifferencesOfSaid : Prop := fnExactDifferencesOfRow.holds Try.pinned (OpenSpec.ofChange fnExactDifferencesOfSpec)

/-- ITS FALSE NEIGHBOUR: 'it returns false'. Refute it at one input. -/
def fnExactDifferencesOfWrong : ChangeSpec := { name := "fnExactDifferencesOf", fn := fun _ => fun
  | [d] => { results := [.lit (.bool false)], args := [d] }
  | _ => none }
def FnExactDifferencesOfWrongFalsely : Prop := fnExactDifferencesOfRow.holds Try.pinned (OpenSpec.ofChange fnExactDifferencesOfWrong)

/-- 'laws.FnExactHolesOf': WHATEVER THE INPUT: true; the input reads as it did. -/
def fnExactHolesOfSpec : ChangeSpec := { name := "fnExactHolesOf", fn := fun _ => fun
  | [d] => { results := [.lit (.bool true)], args := [d] }
  | _ => none }
def fnExactHolesOfRow : OpenClaim := { program := "ytjmgohlepglkoaa", sum := "b7c786c4591d0974ba11d9192cd9a657df3898c2239038304acbc9ccebc2ebab", func := "loop.example/g01181/laws.FnExactHolesOf", spec := "fnExactHolesOf", plainKeys := false, apart := false }
def FnExactHolesOfSaid : Prop := fnExactHolesOfRow.holds Try.pinned (OpenSpec.ofChange fnExactHolesOfSpec)

/-- ITS FALSE NEIGHBOUR: 'it returns false'. Refute it at one input. -/
def fnExactHolesOfWrong : ChangeSpec := { name := "fnExactHolesOf", fn := fun _ => fun
  | [d] => { results := [.lit (.bool false)], args := [d] }
  | _ => none }
def FnExactHolesOfWrongFalsely : Prop := fnExactHolesOfRow.holds Try.pinned (OpenSpec.ofChange fnExactHolesOfWrong)

/-- 'laws.FnExactIsRuler': WHATEVER THE INPUT: true; the input reads as it did. -/
def fnExactIsRulerSpec : ChangeSpec := { name := "fnExactIsRuler", fn := fun _ => fun
  | [d] => { results := [.lit (.bool true)], args := [d] }
  | _ => none }
def fnExactIsRulerRow : OpenClaim := { program := "ytjmgohlepglkoaa", sum := "b7c786c4591d0974ba11d9192cd9a657df3898c2239038304acbc9ccebc2ebab", func := "loop.example/g01181/laws.FnExactIsRuler", spec := "fnExactIsRuler", plainKeys := false, apart := false }
def FnExactIsRulerSaid : Prop := fnExactIsRulerRow.holds Try.pinned (OpenSpec.ofChange fnExactIsRulerSpec)

/-- ITS FALSE NEIGHBOUR: 'it returns false'. Refute it at one input. -/
def fnExactIsRulerWrong : ChangeSpec := { name := "fnExactIsRuler", fn := fun _ => fun
  | [d] => { results := [.lit (.bool false)], args := [d] }
  | _ => none }
def FnExactIsRulerWrongFalsely : Prop := fnExactIsRulerRow.holds Try.pinned (OpenSpec.ofChange fnExactIsRulerWrong)

/-- 'laws.FnExactShortestRuler': WHATEVER THE INPUT: true; the input reads as it did. -/
def fnExactShortestRulerSpec : ChangeSpec := { name := "fnExactShortestRuler", fn := fun _ => fun
  | [d] => { results := [.lit (.bool true)], args := [d] }
  | _ => none }
def fnExactShortestRulerRow : OpenClaim := { program := "ytjmgohlepglkoaa", sum := "b7c786c4591d0974ba11d9192cd9a657df3898c2239038304acbc9ccebc2ebab", func := "loop.example/g01181/laws.FnExactShortestRuler", spec := "fnExactShortestRuler", unfollowed := true, recurses := true, plainKeys := false, apart := false }
def FnExactShortestRulerSaid : Prop := fnExactShortestRulerRow.holds Try.pinned (OpenSpec.ofChange fnExactShortestRulerSpec)

/-- ITS FALSE NEIGHBOUR: 'it returns false'. Refute it at one input. -/
def fnExactShortestRulerWrong : ChangeSpec := { name := "fnExactShortestRuler", fn := fun _ => fun
  | [d] => { results := [.lit (.bool false)], args := [d] }
  | _ => none }
def FnExactShortestRulerWrongFalsely : Prop := fnExactShortestRulerRow.holds Try.pinned (OpenSpec.ofChange fnExactShortestRulerWrong)

/-- 'laws.FnExactFewestMarks': WHATEVER THE INPUT: true; the input reads as it did. -/
def fnExactFewestMarksSpec : ChangeSpec := { name := "fnExactFewestMarks", fn := fun _ => fun
  | [d] => { results := [.lit (.bool true)], args := [d] }
  | _ => none }
def fnExactFewestMarksRow : OpenClaim := { program := "ytjmgohlepglkoaa", sum := "b7c786c4591d0974ba11d9192cd9a657df3898c2239038304acbc9ccebc2ebab", func := "loop.example/g01181/laws.FnExactFewestMarks", spec := "fnExactFewestMarks", unfollowed := true, recurses := true, plainKeys := false, apart := false }
def FnExactFewestMarksSaid : Prop := fnExactFewestMarksRow.holds Try.pinned (OpenSpec.ofChange fnExactFewestMarksSpec)

/-- ITS FALSE NEIGHBOUR: 'it returns false'. Refute it at one input. -/
def fnExactFewestMarksWrong : ChangeSpec := { name := "fnExactFewestMarks", fn := fun _ => fun
  | [d] => { results := [.lit (.bool false)], args := [d] }
  | _ => none }
def FnExactFewestMarksWrongFalsely : Prop := fnExactFewestMarksRow.holds Try.pinned (OpenSpec.ofChange fnExactFewestMarksWrong)

/- THE SECOND FORM. 'bulk': how many values and letters a reading holds, each counted each time it is reached (what is shared counts as often as it is met; a slice's spare places count too). A statement '..UptoSaid' is the law's where the arguments, and the package variables that the reading takes, are together of bulk at most 1048576: NARROWER than '..Said'. Prove '..Said' where nothing that the law and all that it calls make is longer than what came in: it says more and counts as full. Else prove '..UptoSaid'. A law counts once. -/
mutual
def uptoBulk {H : Type} : DataW H → Nat
  | .lit (.string bytes) => bytes.length + 1
  | .lit _ => 1
  | .nil => 1
  | .ptr d => uptoBulk d + 1
  | .slice elems spare => uptoBulkAll elems + uptoBulkAll spare + 1
  | .agg parts => uptoBulkAll parts + 1
  | .iface _ d => uptoBulk d + 1
  | .map entries => uptoBulkEntries entries + 1
  | .held _ => 1
def uptoBulkAll {H : Type} : List (DataW H) → Nat
  | [] => 0
  | d :: r => uptoBulk d + uptoBulkAll r
def uptoBulkEntries {H : Type} : List (Lit × DataW H) → Nat
  | [] => 0
  | x :: r => uptoBulkEntry x + uptoBulkEntries r
def uptoBulkEntry {H : Type} : Lit × DataW H → Nat
  | (.string bytes, d) => bytes.length + uptoBulk d + 1
  | (_, d) => uptoBulk d + 1
 end
def uptoSmall : (H : Type) → List (DataW H) → Bool := fun _ ds => decide (uptoBulkAll ds ≤ 1048576)
def OpenSpec.upto (s : _root_.Go.ChangeSpec) : _root_.Go.OpenSpec := { _root_.Go.OpenSpec.ofChange s with cond := some uptoSmall }

/-- 'laws.FnExactTaperOf', WHERE WHAT IT READS IS OF BULK AT MOST 1048576: true; the input reads as it did. -/
def fnExactTaperOfUptoRow : OpenClaim := { program := "ytjmgohlepglkoaa", sum := "b7c786c4591d0974ba11d9192cd9a657df3898c2239038304acbc9ccebc2ebab", func := "loop.example/g01181/laws.FnExactTaperOf", spec := "fnExactTaperOf", inPlace := ["math.Float32frombits", "math.Float64frombits", "math.Float64bits"], unfollowed := true, recurses := true, plainKeys := false, apart := false, narrowed := true }
def FnExactTaperOfUptoSaid : Prop := fnExactTaperOfUptoRow.holds Try.pinned (OpenSpec.upto fnExactTaperOfSpec)

/-- 'laws.FnExactSteerWeights', WHERE WHAT IT READS IS OF BULK AT MOST 1048576: true; the input reads as it did. -/
def fnExactSteerWeightsUptoRow : OpenClaim := { program := "ytjmgohlepglkoaa", sum := "b7c786c4591d0974ba11d9192cd9a657df3898c2239038304acbc9ccebc2ebab", func := "loop.example/g01181/laws.FnExactSteerWeights", spec := "fnExactSteerWeights", inPlace := ["math.Float32frombits", "math.Float64frombits", "math.Float64bits"], plainKeys := false, apart := false, narrowed := true }
def FnExactSteerWeightsUptoSaid : Prop := fnExactSteerWeightsUptoRow.holds Try.pinned (OpenSpec.upto fnExactSteerWeightsSpec)

/-- 'laws.FnExactNullWeights', WHERE WHAT IT READS IS OF BULK AT MOST 1048576: true; the input reads as it did. -/
def fnExactNullWeightsUptoRow : OpenClaim := { program := "ytjmgohlepglkoaa", sum := "b7c786c4591d0974ba11d9192cd9a657df3898c2239038304acbc9ccebc2ebab", func := "loop.example/g01181/laws.FnExactNullWeights", spec := "fnExactNullWeights", inPlace := ["math.Float32frombits", "math.Float64frombits", "math.Float64bits"], unfollowed := true, recurses := true, plainKeys := false, apart := false, narrowed := true }
def FnExactNullWeightsUptoSaid : Prop := fnExactNullWeightsUptoRow.holds Try.pinned (OpenSpec.upto fnExactNullWeightsSpec)

/-- 'laws.FnExactSideLevel', WHERE WHAT IT READS IS OF BULK AT MOST 1048576: true; the input reads as it did. -/
def fnExactSideLevelUptoRow : OpenClaim := { program := "ytjmgohlepglkoaa", sum := "b7c786c4591d0974ba11d9192cd9a657df3898c2239038304acbc9ccebc2ebab", func := "loop.example/g01181/laws.FnExactSideLevel", spec := "fnExactSideLevel", unfollowed := true, recurses := true, plainKeys := false, apart := false, narrowed := true }
def FnExactSideLevelUptoSaid : Prop := fnExactSideLevelUptoRow.holds Try.pinned (OpenSpec.upto fnExactSideLevelSpec)

/-- 'laws.FnExactBoxOfPlaces', WHERE WHAT IT READS IS OF BULK AT MOST 1048576: true; the input reads as it did. -/
def fnExactBoxOfPlacesUptoRow : OpenClaim := { program := "ytjmgohlepglkoaa", sum := "b7c786c4591d0974ba11d9192cd9a657df3898c2239038304acbc9ccebc2ebab", func := "loop.example/g01181/laws.FnExactBoxOfPlaces", spec := "fnExactBoxOfPlaces", plainKeys := false, apart := false, narrowed := true }
def FnExactBoxOfPlacesUptoSaid : Prop := fnExactBoxOfPlacesUptoRow.holds Try.pinned (OpenSpec.upto fnExactBoxOfPlacesSpec)

/-- 'laws.FnExactDifferencesOf', WHERE WHAT IT READS IS OF BULK AT MOST 1048576: true; the input reads as it did. -/
def fnExactDifferencesOfUptoRow : OpenClaim := { program := "ytjmgohlepglkoaa", sum := "b7c786c4591d0974ba11d9192cd9a657df3898c2239038304acbc9ccebc2ebab", func := "loop.example/g01181/laws.FnExactDifferencesOf", spec := "fnExactDifferencesOf", unfollowed := true, recurses := true, plainKeys := false, apart := false, narrowed := true }
def FnExactDifferencesOfUptoSaid : Prop := fnExactDifferencesOfUptoRow.holds Try.pinned (OpenSpec.upto fnExactDifferencesOfSpec)

/-- 'laws.FnExactHolesOf', WHERE WHAT IT READS IS OF BULK AT MOST 1048576: true; the input reads as it did. -/
def fnExactHolesOfUptoRow : OpenClaim := { program := "ytjmgohlepglkoaa", sum := "b7c786c4591d0974ba11d9192cd9a657df3898c2239038304acbc9ccebc2ebab", func := "loop.example/g01181/laws.FnExactHolesOf", spec := "fnExactHolesOf", plainKeys := false, apart := false, narrowed := true }
def FnExactHolesOfUptoSaid : Prop := fnExactHolesOfUptoRow.holds Try.pinned (OpenSpec.upto fnExactHolesOfSpec)

/-- 'laws.FnExactIsRuler', WHERE WHAT IT READS IS OF BULK AT MOST 1048576: true; the input reads as it did. -/
def fnExactIsRulerUptoRow : OpenClaim := { program := "ytjmgohlepglkoaa", sum := "b7c786c4591d0974ba11d9192cd9a657df3898c2239038304acbc9ccebc2ebab", func := "loop.example/g01181/laws.FnExactIsRuler", spec := "fnExactIsRuler", plainKeys := false, apart := false, narrowed := true }
def FnExactIsRulerUptoSaid : Prop := fnExactIsRulerUptoRow.holds Try.pinned (OpenSpec.upto fnExactIsRulerSpec)

/-- 'laws.FnExactShortestRuler', WHERE WHAT IT READS IS OF BULK AT MOST 1048576: true; the input reads as it did. -/
def fnExactShortestRulerUptoRow : OpenClaim := { program := "ytjmgohlepglkoaa", sum := "b7c786c4591d0974ba11d9192cd9a657df3898c2239038304acbc9ccebc2ebab", func := "loop.example/g01181/laws.FnExactShortestRuler", spec := "fnExactShortestRuler", unfollowed := true, recurses := true, plainKeys := false, apart := false, narrowed := true }
def FnExactShortestRulerUptoSaid : Prop := fnExactShortestRulerUptoRow.holds Try.pinned (OpenSpec.upto fnExactShortestRulerSpec)

/-- 'laws.FnExactFewestMarks', WHERE WHAT IT READS IS OF BULK AT MOST 1048576: true; the input reads as it did. -/
def fnExactFewestMarksUptoRow : OpenClaim := { program := "ytjmgohlepglkoaa", sum := "b7c786c4591d0974ba11d9192cd9a657df3898c2239038304acbc9ccebc2ebab", func := "loop.example/g01181/laws.FnExactFewestMarks", spec := "fnExactFewestMarks", unfollowed := true, recurses := true, plainKeys := false, apart := false, narrowed := true }
def FnExactFewestMarksUptoSaid : Prop := fnExactFewestMarksUptoRow.holds Try.pinned (OpenSpec.upto fnExactFewestMarksSpec)

end Rows
end Go.Proofs.Ytjmgohlepglkoaa
