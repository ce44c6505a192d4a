/-
  No cell of these rows narrows 'for every input' (looked for: loops, veiled, ifaces, maps, wideKeys, modest, calm, conditions, laid).
  DERIVED. THE GIVEN ROWS OF THIS SEAT. 12 by the template 'for every input the law returns true; each argument reads behind the call as it read before'; 0 by the template 'total and deterministic' (their statements: YthnifmgjgdmmoaaTotals.lean).
  GIVEN WITH THE SEED: the statements are not yours to turn. If you find one false, say at which input.
  Laid BY PROGRAM, IN A SANDBOX (cutbox-rows.mjs): the forced cells as the released guide's own fill.sh prints them over the translation 8e26678cf668eb7b… (all of the seat's roots in one cut). By AI agents, Wed Nov 11 2026. No macro, syntax, notation, axiom, sorry.
-/
import Derived.Test.YthnifmgjgdmmoaaChecked
import GoSem.Claim
import GoSem.ClaimJoined
import GoSem.ClaimMapViews
import Derived.JoinedTies
import Derived.KernelRfl
namespace Go.Proofs.Ythnifmgjgdmmoaa
/- THE CELL 'sum', in the pinned program and in every row, IS THE sha256 OF THE DUMP (.gsa) THAT YthnifmgjgdmmoaaProg.lean LOADS. Nothing in Lean hashes anything: it is a label: what it is worth is what the hold of that sum in a sandbox is worth. -/
noncomputable def Try.pinned : Pinned := { name := "ythnifmgjgdmmoaa", sum := "8e26678cf668eb7b7a78a2b9ef01fee4e6f56b81aa48b68dd83276564f48e211", checked := Try.checked }
namespace Rows
def none {H : Type} : Left H := { results := [], args := [] }

/-- 'laws.FnExactPeakOf': WHATEVER THE INPUT: true; the input reads as it did. -/
def fnExactPeakOfSpec : ChangeSpec := { name := "fnExactPeakOf", fn := fun _ => fun
  | [d] => { results := [.lit (.bool true)], args := [d] }
  | _ => none }
def fnExactPeakOfRow : OpenClaim := { program := "ythnifmgjgdmmoaa", sum := "8e26678cf668eb7b7a78a2b9ef01fee4e6f56b81aa48b68dd83276564f48e211", func := "loop.example/g01181/laws.FnExactPeakOf", spec := "fnExactPeakOf", plainKeys := false, apart := false }
def FnExactPeakOfSaid : Prop := fnExactPeakOfRow.holds Try.pinned (OpenSpec.ofChange fnExactPeakOfSpec)

/-- ITS FALSE NEIGHBOUR: 'it returns false'. Refute it at one input. -/
def fnExactPeakOfWrong : ChangeSpec := { name := "fnExactPeakOf", fn := fun _ => fun
  | [d] => { results := [.lit (.bool false)], args := [d] }
  | _ => none }
def FnExactPeakOfWrongFalsely : Prop := fnExactPeakOfRow.holds Try.pinned (OpenSpec.ofChange fnExactPeakOfWrong)

/-- 'laws.FnExactLobesOf': WHATEVER THE INPUT: true; the input reads as it did. -/
def fnExactLobesOfSpec : ChangeSpec := { name := "fnExactLobesOf", fn := fun _ => fun
  | [d] => { results := [.lit (.bool true)], args := [d] }
  | _ => none }
def fnExactLobesOfRow : OpenClaim := { program := "ythnifmgjgdmmoaa", sum := "8e26678cf668eb7b7a78a2b9ef01fee4e6f56b81aa48b68dd83276564f48e211", func := "loop.example/g01181/laws.FnExactLobesOf", spec := "fnExactLobesOf", unfollowed := true, recurses := true, plainKeys := false, apart := false }
def FnExactLobesOfSaid : Prop := fnExactLobesOfRow.holds Try.pinned (OpenSpec.ofChange fnExactLobesOfSpec)

/-- ITS FALSE NEIGHBOUR: 'it returns false'. Refute it at one input. -/
def fnExactLobesOfWrong : ChangeSpec := { name := "fnExactLobesOf", fn := fun _ => fun
  | [d] => { results := [.lit (.bool false)], args := [d] }
  | _ => none }
def FnExactLobesOfWrongFalsely : Prop := fnExactLobesOfRow.holds Try.pinned (OpenSpec.ofChange fnExactLobesOfWrong)

/-- 'laws.FnExactDipsOf': WHATEVER THE INPUT: true; the input reads as it did. -/
def fnExactDipsOfSpec : ChangeSpec := { name := "fnExactDipsOf", fn := fun _ => fun
  | [d] => { results := [.lit (.bool true)], args := [d] }
  | _ => none }
def fnExactDipsOfRow : OpenClaim := { program := "ythnifmgjgdmmoaa", sum := "8e26678cf668eb7b7a78a2b9ef01fee4e6f56b81aa48b68dd83276564f48e211", func := "loop.example/g01181/laws.FnExactDipsOf", spec := "fnExactDipsOf", unfollowed := true, recurses := true, plainKeys := false, apart := false }
def FnExactDipsOfSaid : Prop := fnExactDipsOfRow.holds Try.pinned (OpenSpec.ofChange fnExactDipsOfSpec)

/-- ITS FALSE NEIGHBOUR: 'it returns false'. Refute it at one input. -/
def fnExactDipsOfWrong : ChangeSpec := { name := "fnExactDipsOf", fn := fun _ => fun
  | [d] => { results := [.lit (.bool false)], args := [d] }
  | _ => none }
def FnExactDipsOfWrongFalsely : Prop := fnExactDipsOfRow.holds Try.pinned (OpenSpec.ofChange fnExactDipsOfWrong)

/-- 'laws.FnExactWidthOf': WHATEVER THE INPUT: true; the input reads as it did. -/
def fnExactWidthOfSpec : ChangeSpec := { name := "fnExactWidthOf", fn := fun _ => fun
  | [d1, d2] => { results := [.lit (.bool true)], args := [d1, d2] }
  | _ => none }
def fnExactWidthOfRow : OpenClaim := { program := "ythnifmgjgdmmoaa", sum := "8e26678cf668eb7b7a78a2b9ef01fee4e6f56b81aa48b68dd83276564f48e211", func := "loop.example/g01181/laws.FnExactWidthOf", spec := "fnExactWidthOf", unfollowed := true, recurses := true, plainKeys := false, apart := false }
def FnExactWidthOfSaid : Prop := fnExactWidthOfRow.holds Try.pinned (OpenSpec.ofChange fnExactWidthOfSpec)

/-- ITS FALSE NEIGHBOUR: 'it returns false'. Refute it at one input. -/
def fnExactWidthOfWrong : ChangeSpec := { name := "fnExactWidthOf", fn := fun _ => fun
  | [d1, d2] => { results := [.lit (.bool false)], args := [d1, d2] }
  | _ => none }
def FnExactWidthOfWrongFalsely : Prop := fnExactWidthOfRow.holds Try.pinned (OpenSpec.ofChange fnExactWidthOfWrong)

/-- 'laws.FnExactMainLobe': WHATEVER THE INPUT: true; the input reads as it did. -/
def fnExactMainLobeSpec : ChangeSpec := { name := "fnExactMainLobe", fn := fun _ => fun
  | [d1, d2] => { results := [.lit (.bool true)], args := [d1, d2] }
  | _ => none }
def fnExactMainLobeRow : OpenClaim := { program := "ythnifmgjgdmmoaa", sum := "8e26678cf668eb7b7a78a2b9ef01fee4e6f56b81aa48b68dd83276564f48e211", func := "loop.example/g01181/laws.FnExactMainLobe", spec := "fnExactMainLobe", unfollowed := true, recurses := true, plainKeys := false, apart := false }
def FnExactMainLobeSaid : Prop := fnExactMainLobeRow.holds Try.pinned (OpenSpec.ofChange fnExactMainLobeSpec)

/-- ITS FALSE NEIGHBOUR: 'it returns false'. Refute it at one input. -/
def fnExactMainLobeWrong : ChangeSpec := { name := "fnExactMainLobe", fn := fun _ => fun
  | [d1, d2] => { results := [.lit (.bool false)], args := [d1, d2] }
  | _ => none }
def FnExactMainLobeWrongFalsely : Prop := fnExactMainLobeRow.holds Try.pinned (OpenSpec.ofChange fnExactMainLobeWrong)

/-- 'laws.FnExactSideLevel': WHATEVER THE INPUT: true; the input reads as it did. -/
def fnExactSideLevelSpec : ChangeSpec := { name := "fnExactSideLevel", fn := fun _ => fun
  | [d1, d2] => { results := [.lit (.bool true)], args := [d1, d2] }
  | _ => none }
def fnExactSideLevelRow : OpenClaim := { program := "ythnifmgjgdmmoaa", sum := "8e26678cf668eb7b7a78a2b9ef01fee4e6f56b81aa48b68dd83276564f48e211", func := "loop.example/g01181/laws.FnExactSideLevel", spec := "fnExactSideLevel", unfollowed := true, recurses := true, plainKeys := false, apart := false }
def FnExactSideLevelSaid : Prop := fnExactSideLevelRow.holds Try.pinned (OpenSpec.ofChange fnExactSideLevelSpec)

/-- ITS FALSE NEIGHBOUR: 'it returns false'. Refute it at one input. -/
def fnExactSideLevelWrong : ChangeSpec := { name := "fnExactSideLevel", fn := fun _ => fun
  | [d1, d2] => { results := [.lit (.bool false)], args := [d1, d2] }
  | _ => none }
def FnExactSideLevelWrongFalsely : Prop := fnExactSideLevelRow.holds Try.pinned (OpenSpec.ofChange fnExactSideLevelWrong)

/-- 'laws.FnExactLevelsOf': WHATEVER THE INPUT: true; the input reads as it did. -/
def fnExactLevelsOfSpec : ChangeSpec := { name := "fnExactLevelsOf", fn := fun _ => fun
  | [d] => { results := [.lit (.bool true)], args := [d] }
  | _ => none }
def fnExactLevelsOfRow : OpenClaim := { program := "ythnifmgjgdmmoaa", sum := "8e26678cf668eb7b7a78a2b9ef01fee4e6f56b81aa48b68dd83276564f48e211", func := "loop.example/g01181/laws.FnExactLevelsOf", spec := "fnExactLevelsOf", inPlace := ["math.Float64frombits", "math.Float64bits", "math.archFloor", "math.archTrunc"], plainKeys := false, apart := false }
def FnExactLevelsOfSaid : Prop := fnExactLevelsOfRow.holds Try.pinned (OpenSpec.ofChange fnExactLevelsOfSpec)

/-- ITS FALSE NEIGHBOUR: 'it returns false'. Refute it at one input. -/
def fnExactLevelsOfWrong : ChangeSpec := { name := "fnExactLevelsOf", fn := fun _ => fun
  | [d] => { results := [.lit (.bool false)], args := [d] }
  | _ => none }
def FnExactLevelsOfWrongFalsely : Prop := fnExactLevelsOfRow.holds Try.pinned (OpenSpec.ofChange fnExactLevelsOfWrong)

/-- 'laws.FnExactMeanPower': WHATEVER THE INPUT: true; the input reads as it did. -/
def fnExactMeanPowerSpec : ChangeSpec := { name := "fnExactMeanPower", fn := fun _ => fun
  | [d] => { results := [.lit (.bool true)], args := [d] }
  | _ => none }
def fnExactMeanPowerRow : OpenClaim := { program := "ythnifmgjgdmmoaa", sum := "8e26678cf668eb7b7a78a2b9ef01fee4e6f56b81aa48b68dd83276564f48e211", func := "loop.example/g01181/laws.FnExactMeanPower", spec := "fnExactMeanPower", plainKeys := false, apart := false }
def FnExactMeanPowerSaid : Prop := fnExactMeanPowerRow.holds Try.pinned (OpenSpec.ofChange fnExactMeanPowerSpec)

/-- ITS FALSE NEIGHBOUR: 'it returns false'. Refute it at one input. -/
def fnExactMeanPowerWrong : ChangeSpec := { name := "fnExactMeanPower", fn := fun _ => fun
  | [d] => { results := [.lit (.bool false)], args := [d] }
  | _ => none }
def FnExactMeanPowerWrongFalsely : Prop := fnExactMeanPowerRow.holds Try.pinned (OpenSpec.ofChange fnExactMeanPowerWrong)

/-- 'laws.FnCuts': WHATEVER THE INPUT: true; the input reads as it did. -/
def fnCutsSpec : ChangeSpec := { name := "fnCuts", fn := fun _ => fun
  | [d1, d2] => { results := [.lit (.bool true)], args := [d1, d2] }
  | _ => none }
def fnCutsRow : OpenClaim := { program := "ythnifmgjgdmmoaa", sum := "8e26678cf668eb7b7a78a2b9ef01fee4e6f56b81aa48b68dd83276564f48e211", func := "loop.example/g01181/laws.FnCuts", spec := "fnCuts", inPlace := ["math.Float64bits", "math.Float64frombits", "math.Float32bits", "math.archFloor", "math.archTrunc"], unfollowed := true, recurses := true, plainKeys := false, apart := false }
def FnCutsSaid : Prop := fnCutsRow.holds Try.pinned (OpenSpec.ofChange fnCutsSpec)

/-- ITS FALSE NEIGHBOUR: 'it returns false'. Refute it at one input. -/
def fnCutsWrong : ChangeSpec := { name := "fnCuts", fn := fun _ => fun
  | [d1, d2] => { results := [.lit (.bool false)], args := [d1, d2] }
  | _ => none }
def FnCutsWrongFalsely : Prop := fnCutsRow.holds Try.pinned (OpenSpec.ofChange fnCutsWrong)

/-- 'laws.FnExactTenthsOf': WHATEVER THE INPUT: true; the input reads as it did. -/
def fnExactTenthsOfSpec : ChangeSpec := { name := "fnExactTenthsOf", fn := fun _ => fun
  | [d] => { results := [.lit (.bool true)], args := [d] }
  | _ => none }
def fnExactTenthsOfRow : OpenClaim := { program := "ythnifmgjgdmmoaa", sum := "8e26678cf668eb7b7a78a2b9ef01fee4e6f56b81aa48b68dd83276564f48e211", func := "loop.example/g01181/laws.FnExactTenthsOf", spec := "fnExactTenthsOf", inPlace := ["math.Float64frombits", "math.Float64bits", "math.archFloor", "math.archTrunc"], plainKeys := false, apart := false }
def FnExactTenthsOfSaid : Prop := fnExactTenthsOfRow.holds Try.pinned (OpenSpec.ofChange fnExactTenthsOfSpec)

/-- ITS FALSE NEIGHBOUR: 'it returns false'. Refute it at one input. -/
def fnExactTenthsOfWrong : ChangeSpec := { name := "fnExactTenthsOf", fn := fun _ => fun
  | [d] => { results := [.lit (.bool false)], args := [d] }
  | _ => none }
def FnExactTenthsOfWrongFalsely : Prop := fnExactTenthsOfRow.holds Try.pinned (OpenSpec.ofChange fnExactTenthsOfWrong)

/-- 'laws.FnExactStepsAt': WHATEVER THE INPUT: true; the input reads as it did. -/
def fnExactStepsAtSpec : ChangeSpec := { name := "fnExactStepsAt", fn := fun _ => fun
  | [d1, d2] => { results := [.lit (.bool true)], args := [d1, d2] }
  | _ => none }
def fnExactStepsAtRow : OpenClaim := { program := "ythnifmgjgdmmoaa", sum := "8e26678cf668eb7b7a78a2b9ef01fee4e6f56b81aa48b68dd83276564f48e211", func := "loop.example/g01181/laws.FnExactStepsAt", spec := "fnExactStepsAt", plainKeys := false, apart := false }
def FnExactStepsAtSaid : Prop := fnExactStepsAtRow.holds Try.pinned (OpenSpec.ofChange fnExactStepsAtSpec)

/-- ITS FALSE NEIGHBOUR: 'it returns false'. Refute it at one input. -/
def fnExactStepsAtWrong : ChangeSpec := { name := "fnExactStepsAt", fn := fun _ => fun
  | [d1, d2] => { results := [.lit (.bool false)], args := [d1, d2] }
  | _ => none }
def FnExactStepsAtWrongFalsely : Prop := fnExactStepsAtRow.holds Try.pinned (OpenSpec.ofChange fnExactStepsAtWrong)

/-- 'laws.FnExactSteeringOf': WHATEVER THE INPUT: true; the input reads as it did. -/
def fnExactSteeringOfSpec : ChangeSpec := { name := "fnExactSteeringOf", fn := fun _ => fun
  | [d1, d2] => { results := [.lit (.bool true)], args := [d1, d2] }
  | _ => none }
def fnExactSteeringOfRow : OpenClaim := { program := "ythnifmgjgdmmoaa", sum := "8e26678cf668eb7b7a78a2b9ef01fee4e6f56b81aa48b68dd83276564f48e211", func := "loop.example/g01181/laws.FnExactSteeringOf", spec := "fnExactSteeringOf", inPlace := ["math.Float32frombits", "math.Float64frombits", "math.Float64bits"], plainKeys := false, apart := false }
def FnExactSteeringOfSaid : Prop := fnExactSteeringOfRow.holds Try.pinned (OpenSpec.ofChange fnExactSteeringOfSpec)

/-- ITS FALSE NEIGHBOUR: 'it returns false'. Refute it at one input. -/
def fnExactSteeringOfWrong : ChangeSpec := { name := "fnExactSteeringOf", fn := fun _ => fun
  | [d1, d2] => { results := [.lit (.bool false)], args := [d1, d2] }
  | _ => none }
def FnExactSteeringOfWrongFalsely : Prop := fnExactSteeringOfRow.holds Try.pinned (OpenSpec.ofChange fnExactSteeringOfWrong)

/- THE SECOND FORM. 'bulk': how many values and letters a reading holds, each counted each time it is reached (what is shared counts as often as it is met; a slice's spare places count too). A statement '..UptoSaid' is the law's where the arguments, and the package variables that the reading takes, are together of bulk at most 1048576: NARROWER than '..Said'. Prove '..Said' where nothing that the law and all that it calls make is longer than what came in: it says more and counts as full. Else prove '..UptoSaid'. A law counts once. -/
mutual
def uptoBulk {H : Type} : DataW H → Nat
  | .lit (.string bytes) => bytes.length + 1
  | .lit _ => 1
  | .nil => 1
  | .ptr d => uptoBulk d + 1
  | .slice elems spare => uptoBulkAll elems + uptoBulkAll spare + 1
  | .agg parts => uptoBulkAll parts + 1
  | .iface _ d => uptoBulk d + 1
  | .map entries => uptoBulkEntries entries + 1
  | .held _ => 1
def uptoBulkAll {H : Type} : List (DataW H) → Nat
  | [] => 0
  | d :: r => uptoBulk d + uptoBulkAll r
def uptoBulkEntries {H : Type} : List (Lit × DataW H) → Nat
  | [] => 0
  | x :: r => uptoBulkEntry x + uptoBulkEntries r
def uptoBulkEntry {H : Type} : Lit × DataW H → Nat
  | (.string bytes, d) => bytes.length + uptoBulk d + 1
  | (_, d) => uptoBulk d + 1
 end
def uptoSmall : (H : Type) → List (DataW H) → Bool := fun _ ds => decide (uptoBulkAll ds ≤ 1048576)
def OpenSpec.upto (s : _root_.Go.ChangeSpec) : _root_.Go.OpenSpec := { _root_.Go.OpenSpec.ofChange s with cond := some uptoSmall }

/-- 'laws.FnExactPeakOf', WHERE WHAT IT READS IS OF BULK AT MOST 1048576: true; the input reads as it did. -/
def fnExactPeakOfUptoRow : OpenClaim := { program := "ythnifmgjgdmmoaa", sum := "8e26678cf668eb7b7a78a2b9ef01fee4e6f56b81aa48b68dd83276564f48e211", func := "loop.example/g01181/laws.FnExactPeakOf", spec := "fnExactPeakOf", plainKeys := false, apart := false, narrowed := true }
def FnExactPeakOfUptoSaid : Prop := fnExactPeakOfUptoRow.holds Try.pinned (OpenSpec.upto fnExactPeakOfSpec)

/-- 'laws.FnExactLobesOf', WHERE WHAT IT READS IS OF BULK AT MOST 1048576: true; the input reads as it did. -/
def fnExactLobesOfUptoRow : OpenClaim := { program := "ythnifmgjgdmmoaa", sum := "8e26678cf668eb7b7a78a2b9ef01fee4e6f56b81aa48b68dd83276564f48e211", func := "loop.example/g01181/laws.FnExactLobesOf", spec := "fnExactLobesOf", unfollowed := true, recurses := true, plainKeys := false, apart := false, narrowed := true }
def FnExactLobesOfUptoSaid : Prop := fnExactLobesOfUptoRow.holds Try.pinned (OpenSpec.upto fnExactLobesOfSpec)

/-- 'laws.FnExactDipsOf', WHERE WHAT IT READS IS OF BULK AT MOST 1048576: true; the input reads as it did. -/
def fnExactDipsOfUptoRow : OpenClaim := { program := "ythnifmgjgdmmoaa", sum := "8e26678cf668eb7b7a78a2b9ef01fee4e6f56b81aa48b68dd83276564f48e211", func := "loop.example/g01181/laws.FnExactDipsOf", spec := "fnExactDipsOf", unfollowed := true, recurses := true, plainKeys := false, apart := false, narrowed := true }
def FnExactDipsOfUptoSaid : Prop := fnExactDipsOfUptoRow.holds Try.pinned (OpenSpec.upto fnExactDipsOfSpec)

/-- 'laws.FnExactWidthOf', WHERE WHAT IT READS IS OF BULK AT MOST 1048576: true; the input reads as it did. -/
def fnExactWidthOfUptoRow : OpenClaim := { program := "ythnifmgjgdmmoaa", sum := "8e26678cf668eb7b7a78a2b9ef01fee4e6f56b81aa48b68dd83276564f48e211", func := "loop.example/g01181/laws.FnExactWidthOf", spec := "fnExactWidthOf", unfollowed := true, recurses := true, plainKeys := false, apart := false, narrowed := true }
def FnExactWidthOfUptoSaid : Prop := fnExactWidthOfUptoRow.holds Try.pinned (OpenSpec.upto fnExactWidthOfSpec)

/-- 'laws.FnExactMainLobe', WHERE WHAT IT READS IS OF BULK AT MOST 1048576: true; the input reads as it did. -/
def fnExactMainLobeUptoRow : OpenClaim := { program := "ythnifmgjgdmmoaa", sum := "8e26678cf668eb7b7a78a2b9ef01fee4e6f56b81aa48b68dd83276564f48e211", func := "loop.example/g01181/laws.FnExactMainLobe", spec := "fnExactMainLobe", unfollowed := true, recurses := true, plainKeys := false, apart := false, narrowed := true }
def FnExactMainLobeUptoSaid : Prop := fnExactMainLobeUptoRow.holds Try.pinned (OpenSpec.upto fnExactMainLobeSpec)

/-- 'laws.FnExactSideLevel', WHERE WHAT IT READS IS OF BULK AT MOST 1048576: true; the input reads as it did. -/
def fnExactSideLevelUptoRow : OpenClaim := { program := "ythnifmgjgdmmoaa", sum := "8e26678cf668eb7b7a78a2b9ef01fee4e6f56b81aa48b68dd83276564f48e211", func := "loop.example/g01181/laws.FnExactSideLevel", spec := "fnExactSideLevel", unfollowed := true, recurses := true, plainKeys := false, apart := false, narrowed := true }
def FnExactSideLevelUptoSaid : Prop := fnExactSideLevelUptoRow.holds Try.pinned (OpenSpec.upto fnExactSideLevelSpec)

/-- 'laws.FnExactLevelsOf', WHERE WHAT IT READS IS OF BULK AT MOST 1048576: true; the input reads as it did. -/
def fnExactLevelsOfUptoRow : OpenClaim := { program := "ythnifmgjgdmmoaa", sum := "8e26678cf668eb7b7a78a2b9ef01fee4e6f56b81aa48b68dd83276564f48e211", func := "loop.example/g01181/laws.FnExactLevelsOf", spec := "fnExactLevelsOf", inPlace := ["math.Float64frombits", "math.Float64bits", "math.archFloor", "math.archTrunc"], plainKeys := false, apart := false, narrowed := true }
def FnExactLevelsOfUptoSaid : Prop := fnExactLevelsOfUptoRow.holds Try.pinned (OpenSpec.upto fnExactLevelsOfSpec)

/-- 'laws.FnExactMeanPower', WHERE WHAT IT READS IS OF BULK AT MOST 1048576: true; the input reads as it did. -/
def fnExactMeanPowerUptoRow : OpenClaim := { program := "ythnifmgjgdmmoaa", sum := "8e26678cf668eb7b7a78a2b9ef01fee4e6f56b81aa48b68dd83276564f48e211", func := "loop.example/g01181/laws.FnExactMeanPower", spec := "fnExactMeanPower", plainKeys := false, apart := false, narrowed := true }
def FnExactMeanPowerUptoSaid : Prop := fnExactMeanPowerUptoRow.holds Try.pinned (OpenSpec.upto fnExactMeanPowerSpec)

/-- 'laws.FnCuts', WHERE WHAT IT READS IS OF BULK AT MOST 1048576: true; the input reads as it did. -/
def fnCutsUptoRow : OpenClaim := { program := "ythnifmgjgdmmoaa", sum := "8e26678cf668eb7b7a78a2b9ef01fee4e6f56b81aa48b68dd83276564f48e211", func := "loop.example/g01181/laws.FnCuts", spec := "fnCuts", inPlace := ["math.Float64bits", "math.Float64frombits", "math.Float32bits", "math.archFloor", "math.archTrunc"], unfollowed := true, recurses := true, plainKeys := false, apart := false, narrowed := true }
def FnCutsUptoSaid : Prop := fnCutsUptoRow.holds Try.pinned (OpenSpec.upto fnCutsSpec)

/-- 'laws.FnExactTenthsOf', WHERE WHAT IT READS IS OF BULK AT MOST 1048576: true; the input reads as it did. -/
def fnExactTenthsOfUptoRow : OpenClaim := { program := "ythnifmgjgdmmoaa", sum := "8e26678cf668eb7b7a78a2b9ef01fee4e6f56b81aa48b68dd83276564f48e211", func := "loop.example/g01181/laws.FnExactTenthsOf", spec := "fnExactTenthsOf", inPlace := ["math.Float64frombits", "math.Float64bits", "math.archFloor", "math.archTrunc"], plainKeys := false, apart := false, narrowed := true }
def FnExactTenthsOfUptoSaid : Prop := fnExactTenthsOfUptoRow.holds Try.pinned (OpenSpec.upto fnExactTenthsOfSpec)

/-- 'laws.FnExactStepsAt', WHERE WHAT IT READS IS OF BULK AT MOST 1048576: true; the input reads as it did. -/
def fnExactStepsAtUptoRow : OpenClaim := { program := "ythnifmgjgdmmoaa", sum := "8e26678cf668eb7b7a78a2b9ef01fee4e6f56b81aa48b68dd83276564f48e211", func := "loop.example/g01181/laws.FnExactStepsAt", spec := "fnExactStepsAt", plainKeys := false, apart := false, narrowed := true }
def FnExactStepsAtUptoSaid : Prop := fnExactStepsAtUptoRow.holds Try.pinned (OpenSpec.upto fnExactStepsAtSpec)

/-- 'laws.FnExactSteeringOf', WHERE WHAT IT READS IS OF BULK AT MOST 1048576: true; the input reads as it did. -/
def fnExactSteeringOfUptoRow : OpenClaim := { program := "ythnifmgjgdmmoaa", sum := "8e26678cf668eb7b7a78a2b9ef01fee4e6f56b81aa48b68dd83276564f48e211", func := "loop.example/g01181/laws.FnExactSteeringOf", spec := "fnExactSteeringOf", inPlace := ["math.Float32frombits", "math.Float64frombits", "math.Float64bits"], plainKeys := false, apart := false, narrowed := true }
def FnExactSteeringOfUptoSaid : Prop := fnExactSteeringOfUptoRow.holds Try.pinned (OpenSpec.upto fnExactSteeringOfSpec)

end Rows
end Go.Proofs.Ythnifmgjgdmmoaa
