/-
  No cell of these rows narrows 'for every input' (looked for: loops, veiled, ifaces, maps, wideKeys, modest, calm, conditions, laid).
  DERIVED. THE GIVEN ROWS OF THIS SEAT. 12 by the template 'for every input the law returns true; each argument reads behind the call as it read before'; 0 by the template 'total and deterministic' (their statements: YtabbfpjngbiohaaTotals.lean).
  GIVEN WITH THE SEED: the statements are not yours to turn. If you find one false, say at which input.
  Laid BY PROGRAM, IN A SANDBOX (cutbox-rows.mjs): the forced cells as the released guide's own fill.sh prints them over the translation 03fdc3e539b16a17… (all of the seat's roots in one cut). By AI agents, Wed Nov 11 2026. No macro, syntax, notation, axiom, sorry.
-/
import Derived.Test.YtabbfpjngbiohaaChecked
import GoSem.Claim
import GoSem.ClaimJoined
import GoSem.ClaimMapViews
import Derived.JoinedTies
import Derived.KernelRfl
namespace Go.Proofs.Ytabbfpjngbiohaa
/- THE CELL 'sum', in the pinned program and in every row, IS THE sha256 OF THE DUMP (.gsa) THAT YtabbfpjngbiohaaProg.lean LOADS. Nothing in Lean hashes anything: it is a label: what it is worth is what the hold of that sum in a sandbox is worth. -/
noncomputable def Try.pinned : Pinned := { name := "ytabbfpjngbiohaa", sum := "03fdc3e539b16a175351a26a6cacfda7b2bd06b889291bae1e9ce4112cdca9c6", checked := Try.checked }
namespace Rows
def none {H : Type} : Left H := { results := [], args := [] }

/-- 'laws.FnNormed': WHATEVER THE INPUT: true; the input reads as it did. -/
def fnNormedSpec : ChangeSpec := { name := "fnNormed", fn := fun _ => fun
  | [d1, d2] => { results := [.lit (.bool true)], args := [d1, d2] }
  | _ => none }
def fnNormedRow : OpenClaim := { program := "ytabbfpjngbiohaa", sum := "03fdc3e539b16a175351a26a6cacfda7b2bd06b889291bae1e9ce4112cdca9c6", func := "loop.example/g01181/laws.FnNormed", spec := "fnNormed", inPlace := ["math.sqrt", "math.Float64bits", "math.Float64frombits", "math.Float32bits"], unfollowed := true, recurses := true, plainKeys := false, leaving := true, apart := false }
def FnNormedSaid : Prop := fnNormedRow.holds Try.pinned (OpenSpec.ofChange fnNormedSpec)

/-- ITS FALSE NEIGHBOUR: 'it returns false'. Refute it at one input. -/
def fnNormedWrong : ChangeSpec := { name := "fnNormed", fn := fun _ => fun
  | [d1, d2] => { results := [.lit (.bool false)], args := [d1, d2] }
  | _ => none }
def FnNormedWrongFalsely : Prop := fnNormedRow.holds Try.pinned (OpenSpec.ofChange fnNormedWrong)

/-- 'laws.FnNulls': WHATEVER THE INPUT: true; the input reads as it did. -/
def fnNullsSpec : ChangeSpec := { name := "fnNulls", fn := fun _ => fun
  | [d1, d2] => { results := [.lit (.bool true)], args := [d1, d2] }
  | _ => none }
def fnNullsRow : OpenClaim := { program := "ytabbfpjngbiohaa", sum := "03fdc3e539b16a175351a26a6cacfda7b2bd06b889291bae1e9ce4112cdca9c6", func := "loop.example/g01181/laws.FnNulls", spec := "fnNulls", inPlace := ["math.Float64bits", "math.Float64frombits", "math.sqrt"], unfollowed := true, recurses := true, plainKeys := false, leaving := true, apart := false }
def FnNullsSaid : Prop := fnNullsRow.holds Try.pinned (OpenSpec.ofChange fnNullsSpec)

/-- ITS FALSE NEIGHBOUR: 'it returns false'. Refute it at one input. -/
def fnNullsWrong : ChangeSpec := { name := "fnNulls", fn := fun _ => fun
  | [d1, d2] => { results := [.lit (.bool false)], args := [d1, d2] }
  | _ => none }
def FnNullsWrongFalsely : Prop := fnNullsRow.holds Try.pinned (OpenSpec.ofChange fnNullsWrong)

/-- 'laws.FnExactNextSeed': WHATEVER THE INPUT: true; the input reads as it did. -/
def fnExactNextSeedSpec : ChangeSpec := { name := "fnExactNextSeed", fn := fun _ => fun
  | [d] => { results := [.lit (.bool true)], args := [d] }
  | _ => none }
def fnExactNextSeedRow : OpenClaim := { program := "ytabbfpjngbiohaa", sum := "03fdc3e539b16a175351a26a6cacfda7b2bd06b889291bae1e9ce4112cdca9c6", func := "loop.example/g01181/laws.FnExactNextSeed", spec := "fnExactNextSeed", plainKeys := false, apart := false }
def FnExactNextSeedSaid : Prop := fnExactNextSeedRow.holds Try.pinned (OpenSpec.ofChange fnExactNextSeedSpec)

/-- ITS FALSE NEIGHBOUR: 'it returns false'. Refute it at one input. -/
def fnExactNextSeedWrong : ChangeSpec := { name := "fnExactNextSeed", fn := fun _ => fun
  | [d] => { results := [.lit (.bool false)], args := [d] }
  | _ => none }
def FnExactNextSeedWrongFalsely : Prop := fnExactNextSeedRow.holds Try.pinned (OpenSpec.ofChange fnExactNextSeedWrong)

/-- 'laws.FnExactSymbolOf': WHATEVER THE INPUT: true; the input reads as it did. -/
def fnExactSymbolOfSpec : ChangeSpec := { name := "fnExactSymbolOf", fn := fun _ => fun
  | [d1, d2] => { results := [.lit (.bool true)], args := [d1, d2] }
  | _ => none }
def fnExactSymbolOfRow : OpenClaim := { program := "ytabbfpjngbiohaa", sum := "03fdc3e539b16a175351a26a6cacfda7b2bd06b889291bae1e9ce4112cdca9c6", func := "loop.example/g01181/laws.FnExactSymbolOf", spec := "fnExactSymbolOf", plainKeys := false, apart := false }
def FnExactSymbolOfSaid : Prop := fnExactSymbolOfRow.holds Try.pinned (OpenSpec.ofChange fnExactSymbolOfSpec)

/-- ITS FALSE NEIGHBOUR: 'it returns false'. Refute it at one input. -/
def fnExactSymbolOfWrong : ChangeSpec := { name := "fnExactSymbolOf", fn := fun _ => fun
  | [d1, d2] => { results := [.lit (.bool false)], args := [d1, d2] }
  | _ => none }
def FnExactSymbolOfWrongFalsely : Prop := fnExactSymbolOfRow.holds Try.pinned (OpenSpec.ofChange fnExactSymbolOfWrong)

/-- 'laws.FnExactNoiseOf': WHATEVER THE INPUT: true; the input reads as it did. -/
def fnExactNoiseOfSpec : ChangeSpec := { name := "fnExactNoiseOf", fn := fun _ => fun
  | [d1, d2, d3, d4] => { results := [.lit (.bool true)], args := [d1, d2, d3, d4] }
  | _ => none }
def fnExactNoiseOfRow : OpenClaim := { program := "ytabbfpjngbiohaa", sum := "03fdc3e539b16a175351a26a6cacfda7b2bd06b889291bae1e9ce4112cdca9c6", func := "loop.example/g01181/laws.FnExactNoiseOf", spec := "fnExactNoiseOf", plainKeys := false, apart := false }
def FnExactNoiseOfSaid : Prop := fnExactNoiseOfRow.holds Try.pinned (OpenSpec.ofChange fnExactNoiseOfSpec)

/-- ITS FALSE NEIGHBOUR: 'it returns false'. Refute it at one input. -/
def fnExactNoiseOfWrong : ChangeSpec := { name := "fnExactNoiseOf", fn := fun _ => fun
  | [d1, d2, d3, d4] => { results := [.lit (.bool false)], args := [d1, d2, d3, d4] }
  | _ => none }
def FnExactNoiseOfWrongFalsely : Prop := fnExactNoiseOfRow.holds Try.pinned (OpenSpec.ofChange fnExactNoiseOfWrong)

/-- 'laws.FnExactValidSources': WHATEVER THE INPUT: true; the input reads as it did. -/
def fnExactValidSourcesSpec : ChangeSpec := { name := "fnExactValidSources", fn := fun _ => fun
  | [d] => { results := [.lit (.bool true)], args := [d] }
  | _ => none }
def fnExactValidSourcesRow : OpenClaim := { program := "ytabbfpjngbiohaa", sum := "03fdc3e539b16a175351a26a6cacfda7b2bd06b889291bae1e9ce4112cdca9c6", func := "loop.example/g01181/laws.FnExactValidSources", spec := "fnExactValidSources", plainKeys := false, apart := false }
def FnExactValidSourcesSaid : Prop := fnExactValidSourcesRow.holds Try.pinned (OpenSpec.ofChange fnExactValidSourcesSpec)

/-- ITS FALSE NEIGHBOUR: 'it returns false'. Refute it at one input. -/
def fnExactValidSourcesWrong : ChangeSpec := { name := "fnExactValidSources", fn := fun _ => fun
  | [d] => { results := [.lit (.bool false)], args := [d] }
  | _ => none }
def FnExactValidSourcesWrongFalsely : Prop := fnExactValidSourcesRow.holds Try.pinned (OpenSpec.ofChange fnExactValidSourcesWrong)

/-- 'laws.FnExactSnapshotOf': WHATEVER THE INPUT: true; the input reads as it did. -/
def fnExactSnapshotOfSpec : ChangeSpec := { name := "fnExactSnapshotOf", fn := fun _ => fun
  | [d1, d2, d3, d4, d5] => { results := [.lit (.bool true)], args := [d1, d2, d3, d4, d5] }
  | _ => none }
def fnExactSnapshotOfRow : OpenClaim := { program := "ytabbfpjngbiohaa", sum := "03fdc3e539b16a175351a26a6cacfda7b2bd06b889291bae1e9ce4112cdca9c6", func := "loop.example/g01181/laws.FnExactSnapshotOf", spec := "fnExactSnapshotOf", inPlace := ["math.Float32frombits", "math.Float64frombits", "math.Float64bits"], plainKeys := false, apart := false }
def FnExactSnapshotOfSaid : Prop := fnExactSnapshotOfRow.holds Try.pinned (OpenSpec.ofChange fnExactSnapshotOfSpec)

/-- ITS FALSE NEIGHBOUR: 'it returns false'. Refute it at one input. -/
def fnExactSnapshotOfWrong : ChangeSpec := { name := "fnExactSnapshotOf", fn := fun _ => fun
  | [d1, d2, d3, d4, d5] => { results := [.lit (.bool false)], args := [d1, d2, d3, d4, d5] }
  | _ => none }
def FnExactSnapshotOfWrongFalsely : Prop := fnExactSnapshotOfRow.holds Try.pinned (OpenSpec.ofChange fnExactSnapshotOfWrong)

/-- 'laws.FnExactSnapshotsOf': WHATEVER THE INPUT: true; the input reads as it did. -/
def fnExactSnapshotsOfSpec : ChangeSpec := { name := "fnExactSnapshotsOf", fn := fun _ => fun
  | [d1, d2, d3, d4, d5, d6] => { results := [.lit (.bool true)], args := [d1, d2, d3, d4, d5, d6] }
  | _ => none }
def fnExactSnapshotsOfRow : OpenClaim := { program := "ytabbfpjngbiohaa", sum := "03fdc3e539b16a175351a26a6cacfda7b2bd06b889291bae1e9ce4112cdca9c6", func := "loop.example/g01181/laws.FnExactSnapshotsOf", spec := "fnExactSnapshotsOf", inPlace := ["math.Float32frombits", "math.Float64frombits", "math.Float64bits"], plainKeys := false, apart := false }
def FnExactSnapshotsOfSaid : Prop := fnExactSnapshotsOfRow.holds Try.pinned (OpenSpec.ofChange fnExactSnapshotsOfSpec)

/-- ITS FALSE NEIGHBOUR: 'it returns false'. Refute it at one input. -/
def fnExactSnapshotsOfWrong : ChangeSpec := { name := "fnExactSnapshotsOf", fn := fun _ => fun
  | [d1, d2, d3, d4, d5, d6] => { results := [.lit (.bool false)], args := [d1, d2, d3, d4, d5, d6] }
  | _ => none }
def FnExactSnapshotsOfWrongFalsely : Prop := fnExactSnapshotsOfRow.holds Try.pinned (OpenSpec.ofChange fnExactSnapshotsOfWrong)

/-- 'laws.FnExactUnitMatrix': WHATEVER THE INPUT: true; the input reads as it did. -/
def fnExactUnitMatrixSpec : ChangeSpec := { name := "fnExactUnitMatrix", fn := fun _ => fun
  | [d] => { results := [.lit (.bool true)], args := [d] }
  | _ => none }
def fnExactUnitMatrixRow : OpenClaim := { program := "ytabbfpjngbiohaa", sum := "03fdc3e539b16a175351a26a6cacfda7b2bd06b889291bae1e9ce4112cdca9c6", func := "loop.example/g01181/laws.FnExactUnitMatrix", spec := "fnExactUnitMatrix", unfollowed := true, recurses := true, plainKeys := false, leaving := true, apart := false }
def FnExactUnitMatrixSaid : Prop := fnExactUnitMatrixRow.holds Try.pinned (OpenSpec.ofChange fnExactUnitMatrixSpec)

/-- ITS FALSE NEIGHBOUR: 'it returns false'. Refute it at one input. -/
def fnExactUnitMatrixWrong : ChangeSpec := { name := "fnExactUnitMatrix", fn := fun _ => fun
  | [d] => { results := [.lit (.bool false)], args := [d] }
  | _ => none }
def FnExactUnitMatrixWrongFalsely : Prop := fnExactUnitMatrixRow.holds Try.pinned (OpenSpec.ofChange fnExactUnitMatrixWrong)

/-- 'laws.FnCovariances': WHATEVER THE INPUT: true; the input reads as it did. -/
def fnCovariancesSpec : ChangeSpec := { name := "fnCovariances", fn := fun _ => fun
  | [d1, d2] => { results := [.lit (.bool true)], args := [d1, d2] }
  | _ => none }
def fnCovariancesRow : OpenClaim := { program := "ytabbfpjngbiohaa", sum := "03fdc3e539b16a175351a26a6cacfda7b2bd06b889291bae1e9ce4112cdca9c6", func := "loop.example/g01181/laws.FnCovariances", spec := "fnCovariances", inPlace := ["math.Float32frombits", "(*sync.WaitGroup).Add", "internal/race.ReleaseMerge", "internal/race.Disable", "internal/race.Enable", "internal/synctest.IsInBubble", "internal/synctest.Associate[sync.WaitGroup]", "sync.fatal", "sync/atomic.OrUint64", "sync/atomic.AddUint64", "internal/race.Read", "sync/atomic.LoadUint64", "sync/atomic.StoreUint64", "internal/synctest.Disassociate[sync.WaitGroup]", "sync.runtime_Semrelease", "(*sync.WaitGroup).Done", "(*sync.WaitGroup).Wait", "internal/race.Acquire", "internal/synctest.IsAssociated[sync.WaitGroup]", "sync/atomic.CompareAndSwapUint64", "internal/race.Write", "sync.runtime_SemacquireWaitGroup", "math.Float32bits"], unfollowed := true, recurses := true, plainKeys := false, leaving := true, apart := false }
def FnCovariancesSaid : Prop := fnCovariancesRow.holds Try.pinned (OpenSpec.ofChange fnCovariancesSpec)

/-- ITS FALSE NEIGHBOUR: 'it returns false'. Refute it at one input. -/
def fnCovariancesWrong : ChangeSpec := { name := "fnCovariances", fn := fun _ => fun
  | [d1, d2] => { results := [.lit (.bool false)], args := [d1, d2] }
  | _ => none }
def FnCovariancesWrongFalsely : Prop := fnCovariancesRow.holds Try.pinned (OpenSpec.ofChange fnCovariancesWrong)

/-- 'laws.FnSky': WHATEVER THE INPUT: true; the input reads as it did. -/
def fnSkySpec : ChangeSpec := { name := "fnSky", fn := fun _ => fun
  | [d1, d2] => { results := [.lit (.bool true)], args := [d1, d2] }
  | _ => none }
def fnSkyRow : OpenClaim := { program := "ytabbfpjngbiohaa", sum := "03fdc3e539b16a175351a26a6cacfda7b2bd06b889291bae1e9ce4112cdca9c6", func := "loop.example/g01181/laws.FnSky", spec := "fnSky", inPlace := ["math.Float64bits", "math.Float64frombits", "math.Float32bits"], unfollowed := true, recurses := true, plainKeys := false, leaving := true, apart := false }
def FnSkySaid : Prop := fnSkyRow.holds Try.pinned (OpenSpec.ofChange fnSkySpec)

/-- ITS FALSE NEIGHBOUR: 'it returns false'. Refute it at one input. -/
def fnSkyWrong : ChangeSpec := { name := "fnSky", fn := fun _ => fun
  | [d1, d2] => { results := [.lit (.bool false)], args := [d1, d2] }
  | _ => none }
def FnSkyWrongFalsely : Prop := fnSkyRow.holds Try.pinned (OpenSpec.ofChange fnSkyWrong)

/-- 'laws.FnCuts': WHATEVER THE INPUT: true; the input reads as it did. -/
def fnCutsSpec : ChangeSpec := { name := "fnCuts", fn := fun _ => fun
  | [d1, d2] => { results := [.lit (.bool true)], args := [d1, d2] }
  | _ => none }
def fnCutsRow : OpenClaim := { program := "ytabbfpjngbiohaa", sum := "03fdc3e539b16a175351a26a6cacfda7b2bd06b889291bae1e9ce4112cdca9c6", func := "loop.example/g01181/laws.FnCuts", spec := "fnCuts", inPlace := ["math.Float64bits", "math.Float64frombits", "math.Float32bits", "math.archFloor", "math.archTrunc"], unfollowed := true, recurses := true, plainKeys := false, leaving := true, apart := false }
def FnCutsSaid : Prop := fnCutsRow.holds Try.pinned (OpenSpec.ofChange fnCutsSpec)

/-- ITS FALSE NEIGHBOUR: 'it returns false'. Refute it at one input. -/
def fnCutsWrong : ChangeSpec := { name := "fnCuts", fn := fun _ => fun
  | [d1, d2] => { results := [.lit (.bool false)], args := [d1, d2] }
  | _ => none }
def FnCutsWrongFalsely : Prop := fnCutsRow.holds Try.pinned (OpenSpec.ofChange fnCutsWrong)

/- THE SECOND FORM. 'bulk': how many values and letters a reading holds, each counted each time it is reached (what is shared counts as often as it is met; a slice's spare places count too). A statement '..UptoSaid' is the law's where the arguments, and the package variables that the reading takes, are together of bulk at most 1048576: NARROWER than '..Said'. Prove '..Said' where nothing that the law and all that it calls make is longer than what came in: it says more and counts as full. Else prove '..UptoSaid'. A law counts once. -/
mutual
def uptoBulk {H : Type} : DataW H → Nat
  | .lit (.string bytes) => bytes.length + 1
  | .lit _ => 1
  | .nil => 1
  | .ptr d => uptoBulk d + 1
  | .slice elems spare => uptoBulkAll elems + uptoBulkAll spare + 1
  | .agg parts => uptoBulkAll parts + 1
  | .iface _ d => uptoBulk d + 1
  | .map entries => uptoBulkEntries entries + 1
  | .held _ => 1
def uptoBulkAll {H : Type} : List (DataW H) → Nat
  | [] => 0
  | d :: r => uptoBulk d + uptoBulkAll r
def uptoBulkEntries {H : Type} : List (Lit × DataW H) → Nat
  | [] => 0
  | x :: r => uptoBulkEntry x + uptoBulkEntries r
def uptoBulkEntry {H : Type} : Lit × DataW H → Nat
  | (.string bytes, d) => bytes.length + uptoBulk d + 1
  | (_, d) => uptoBulk d + 1
 end
def uptoSmall : (H : Type) → List (DataW H) → Bool := fun _ ds => decide (uptoBulkAll ds ≤ 1048576)
def OpenSpec.upto (s : _root_.Go.ChangeSpec) : _root_.Go.OpenSpec := { _root_.Go.OpenSpec.ofChange s with cond := some uptoSmall }

/-- 'laws.FnNormed', WHERE WHAT IT READS IS OF BULK AT MOST 1048576: true; the input reads as it did. -/
def fnNormedUptoRow : OpenClaim := { program := "ytabbfpjngbiohaa", sum := "03fdc3e539b16a175351a26a6cacfda7b2bd06b889291bae1e9ce4112cdca9c6", func := "loop.example/g01181/laws.FnNormed", spec := "fnNormed", inPlace := ["math.sqrt", "math.Float64bits", "math.Float64frombits", "math.Float32bits"], unfollowed := true, recurses := true, plainKeys := false, leaving := true, apart := false, narrowed := true }
def FnNormedUptoSaid : Prop := fnNormedUptoRow.holds Try.pinned (OpenSpec.upto fnNormedSpec)

/-- 'laws.FnNulls', WHERE WHAT IT READS IS OF BULK AT MOST 1048576: true; the input reads as it did. -/
def fnNullsUptoRow : OpenClaim := { program := "ytabbfpjngbiohaa", sum := "03fdc3e539b16a175351a26a6cacfda7b2bd06b889291bae1e9ce4112cdca9c6", func := "loop.example/g01181/laws.FnNulls", spec := "fnNulls", inPlace := ["math.Float64bits", "math.Float64frombits", "math.sqrt"], unfollowed := true, recurses := true, plainKeys := false, leaving := true, apart := false, narrowed := true }
def FnNullsUptoSaid : Prop := fnNullsUptoRow.holds Try.pinned (OpenSpec.upto fnNullsSpec)

/-- 'laws.FnExactNextSeed', WHERE WHAT IT READS IS OF BULK AT MOST 1048576: true; the input reads as it did. -/
def fnExactNextSeedUptoRow : OpenClaim := { program := "ytabbfpjngbiohaa", sum := "03fdc3e539b16a175351a26a6cacfda7b2bd06b889291bae1e9ce4112cdca9c6", func := "loop.example/g01181/laws.FnExactNextSeed", spec := "fnExactNextSeed", plainKeys := false, apart := false, narrowed := true }
def FnExactNextSeedUptoSaid : Prop := fnExactNextSeedUptoRow.holds Try.pinned (OpenSpec.upto fnExactNextSeedSpec)

/-- 'laws.FnExactSymbolOf', WHERE WHAT IT READS IS OF BULK AT MOST 1048576: true; the input reads as it did. -/
def fnExactSymbolOfUptoRow : OpenClaim := { program := "ytabbfpjngbiohaa", sum := "03fdc3e539b16a175351a26a6cacfda7b2bd06b889291bae1e9ce4112cdca9c6", func := "loop.example/g01181/laws.FnExactSymbolOf", spec := "fnExactSymbolOf", plainKeys := false, apart := false, narrowed := true }
def FnExactSymbolOfUptoSaid : Prop := fnExactSymbolOfUptoRow.holds Try.pinned (OpenSpec.upto fnExactSymbolOfSpec)

/-- 'laws.FnExactNoiseOf', WHERE WHAT IT READS IS OF BULK AT MOST 1048576: true; the input reads as it did. -/
def fnExactNoiseOfUptoRow : OpenClaim := { program := "ytabbfpjngbiohaa", sum := "03fdc3e539b16a175351a26a6cacfda7b2bd06b889291bae1e9ce4112cdca9c6", func := "loop.example/g01181/laws.FnExactNoiseOf", spec := "fnExactNoiseOf", plainKeys := false, apart := false, narrowed := true }
def FnExactNoiseOfUptoSaid : Prop := fnExactNoiseOfUptoRow.holds Try.pinned (OpenSpec.upto fnExactNoiseOfSpec)

/-- 'laws.FnExactValidSources', WHERE WHAT IT READS IS OF BULK AT MOST 1048576: true; the input reads as it did. -/
def fnExactValidSourcesUptoRow : OpenClaim := { program := "ytabbfpjngbiohaa", sum := "03fdc3e539b16a175351a26a6cacfda7b2bd06b889291bae1e9ce4112cdca9c6", func := "loop.example/g01181/laws.FnExactValidSources", spec := "fnExactValidSources", plainKeys := false, apart := false, narrowed := true }
def FnExactValidSourcesUptoSaid : Prop := fnExactValidSourcesUptoRow.holds Try.pinned (OpenSpec.upto fnExactValidSourcesSpec)

/-- 'laws.FnExactSnapshotOf', WHERE WHAT IT READS IS OF BULK AT MOST 1048576: true; the input reads as it did. -/
def fnExactSnapshotOfUptoRow : OpenClaim := { program := "ytabbfpjngbiohaa", sum := "03fdc3e539b16a175351a26a6cacfda7b2bd06b889291bae1e9ce4112cdca9c6", func := "loop.example/g01181/laws.FnExactSnapshotOf", spec := "fnExactSnapshotOf", inPlace := ["math.Float32frombits", "math.Float64frombits", "math.Float64bits"], plainKeys := false, apart := false, narrowed := true }
def FnExactSnapshotOfUptoSaid : Prop := fnExactSnapshotOfUptoRow.holds Try.pinned (OpenSpec.upto fnExactSnapshotOfSpec)

/-- 'laws.FnExactSnapshotsOf', WHERE WHAT IT READS IS OF BULK AT MOST 1048576: true; the input reads as it did. -/
def fnExactSnapshotsOfUptoRow : OpenClaim := { program := "ytabbfpjngbiohaa", sum := "03fdc3e539b16a175351a26a6cacfda7b2bd06b889291bae1e9ce4112cdca9c6", func := "loop.example/g01181/laws.FnExactSnapshotsOf", spec := "fnExactSnapshotsOf", inPlace := ["math.Float32frombits", "math.Float64frombits", "math.Float64bits"], plainKeys := false, apart := false, narrowed := true }
def FnExactSnapshotsOfUptoSaid : Prop := fnExactSnapshotsOfUptoRow.holds Try.pinned (OpenSpec.upto fnExactSnapshotsOfSpec)

/-- 'laws.FnExactUnitMatrix', WHERE WHAT IT READS IS OF BULK AT MOST 1048576: true; the input reads as it did. -/
def fnExactUnitMatrixUptoRow : OpenClaim := { program := "ytabbfpjngbiohaa", sum := "03fdc3e539b16a175351a26a6cacfda7b2bd06b889291bae1e9ce4112cdca9c6", func := "loop.example/g01181/laws.FnExactUnitMatrix", spec := "fnExactUnitMatrix", unfollowed := true, recurses := true, plainKeys := false, leaving := true, apart := false, narrowed := true }
def FnExactUnitMatrixUptoSaid : Prop := fnExactUnitMatrixUptoRow.holds Try.pinned (OpenSpec.upto fnExactUnitMatrixSpec)

/-- 'laws.FnCovariances', WHERE WHAT IT READS IS OF BULK AT MOST 1048576: true; the input reads as it did. -/
def fnCovariancesUptoRow : OpenClaim := { program := "ytabbfpjngbiohaa", sum := "03fdc3e539b16a175351a26a6cacfda7b2bd06b889291bae1e9ce4112cdca9c6", func := "loop.example/g01181/laws.FnCovariances", spec := "fnCovariances", inPlace := ["math.Float32frombits", "(*sync.WaitGroup).Add", "internal/race.ReleaseMerge", "internal/race.Disable", "internal/race.Enable", "internal/synctest.IsInBubble", "internal/synctest.Associate[sync.WaitGroup]", "sync.fatal", "sync/atomic.OrUint64", "sync/atomic.AddUint64", "internal/race.Read", "sync/atomic.LoadUint64", "sync/atomic.StoreUint64", "internal/synctest.Disassociate[sync.WaitGroup]", "sync.runtime_Semrelease", "(*sync.WaitGroup).Done", "(*sync.WaitGroup).Wait", "internal/race.Acquire", "internal/synctest.IsAssociated[sync.WaitGroup]", "sync/atomic.CompareAndSwapUint64", "internal/race.Write", "sync.runtime_SemacquireWaitGroup", "math.Float32bits"], unfollowed := true, recurses := true, plainKeys := false, leaving := true, apart := false, narrowed := true }
def FnCovariancesUptoSaid : Prop := fnCovariancesUptoRow.holds Try.pinned (OpenSpec.upto fnCovariancesSpec)

/-- 'laws.FnSky', WHERE WHAT IT READS IS OF BULK AT MOST 1048576: true; the input reads as it did. -/
def fnSkyUptoRow : OpenClaim := { program := "ytabbfpjngbiohaa", sum := "03fdc3e539b16a175351a26a6cacfda7b2bd06b889291bae1e9ce4112cdca9c6", func := "loop.example/g01181/laws.FnSky", spec := "fnSky", inPlace := ["math.Float64bits", "math.Float64frombits", "math.Float32bits"], unfollowed := true, recurses := true, plainKeys := false, leaving := true, apart := false, narrowed := true }
def FnSkyUptoSaid : Prop := fnSkyUptoRow.holds Try.pinned (OpenSpec.upto fnSkySpec)

/-- 'laws.FnCuts', WHERE WHAT IT READS IS OF BULK AT MOST 1048576: true; the input reads as it did. -/
def fnCutsUptoRow : OpenClaim := { program := "ytabbfpjngbiohaa", sum := "03fdc3e539b16a175351a26a6cacfda7b2bd06b889291bae1e9ce4112cdca9c6", func := "loop.example/g01181/laws.FnCuts", spec := "fnCuts", inPlace := ["math.Float64bits", "math.Float64frombits", "math.Float32bits", "math.archFloor", "math.archTrunc"], unfollowed := true, recurses := true, plainKeys := false, leaving := true, apart := false, narrowed := true }
def FnCutsUptoSaid : Prop := fnCutsUptoRow.holds Try.pinned (OpenSpec.upto fnCutsSpec)

end Rows
end Go.Proofs.Ytabbfpjngbiohaa
