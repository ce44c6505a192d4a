/-
  No cell of these rows narrows 'for every input' (looked for: loops, veiled, ifaces, maps, wideKeys, modest, calm, conditions, laid).
  DERIVED. THE GIVEN ROWS OF THIS SEAT. 12 by the template 'for every input the law returns true; each argument reads behind the call as it read before'; 0 by the template 'total and deterministic' (their statements: YtkjmlpdbnnmlhaaTotals.lean).
  GIVEN WITH THE SEED: the statements are not yours to turn. If you find one false, say at which input.
  Laid BY PROGRAM, IN A SANDBOX (cutbox-rows.mjs): the forced cells as the released guide's own fill.sh prints them over the translation 4a86ff26b47ddc33… (all of the seat's roots in one cut). By AI agents, Wed Nov 11 2026. No macro, syntax, notation, axiom, sorry.
-/
import Derived.Test.YtkjmlpdbnnmlhaaChecked
import GoSem.Claim
import GoSem.ClaimJoined
import GoSem.ClaimMapViews
import Derived.JoinedTies
import Derived.KernelRfl
namespace Go.Proofs.Ytkjmlpdbnnmlhaa
/- THE CELL 'sum', in the pinned program and in every row, IS THE sha256 OF THE DUMP (.gsa) THAT YtkjmlpdbnnmlhaaProg.lean LOADS. Nothing in Lean hashes anything: it is a label: what it is worth is what the hold of that sum in a sandbox is worth. -/
noncomputable def Try.pinned : Pinned := { name := "ytkjmlpdbnnmlhaa", sum := "4a86ff26b47ddc336f7550bef9cd225ff3e39ebb0b4d0eea8f1ef6d8b5b544e3", checked := Try.checked }
namespace Rows
def none {H : Type} : Left H := { results := [], args := [] }

/-- 'laws.FnExactAreBeams': WHATEVER THE INPUT: true; the input reads as it did. -/
def fnExactAreBeamsSpec : ChangeSpec := { name := "fnExactAreBeams", fn := fun _ => fun
  | [d] => { results := [.lit (.bool true)], args := [d] }
  | _ => none }
def fnExactAreBeamsRow : OpenClaim := { program := "ytkjmlpdbnnmlhaa", sum := "4a86ff26b47ddc336f7550bef9cd225ff3e39ebb0b4d0eea8f1ef6d8b5b544e3", func := "loop.example/g01181/laws.FnExactAreBeams", spec := "fnExactAreBeams", plainKeys := false, apart := false }
def FnExactAreBeamsSaid : Prop := fnExactAreBeamsRow.holds Try.pinned (OpenSpec.ofChange fnExactAreBeamsSpec)

/-- ITS FALSE NEIGHBOUR: 'it returns false'. Refute it at one input. -/
def fnExactAreBeamsWrong : ChangeSpec := { name := "fnExactAreBeams", fn := fun _ => fun
  | [d] => { results := [.lit (.bool false)], args := [d] }
  | _ => none }
def FnExactAreBeamsWrongFalsely : Prop := fnExactAreBeamsRow.holds Try.pinned (OpenSpec.ofChange fnExactAreBeamsWrong)

/-- 'laws.FnExactSwitchTicks': WHATEVER THE INPUT: true; the input reads as it did. -/
def fnExactSwitchTicksSpec : ChangeSpec := { name := "fnExactSwitchTicks", fn := fun _ => fun
  | [d1, d2] => { results := [.lit (.bool true)], args := [d1, d2] }
  | _ => none }
def fnExactSwitchTicksRow : OpenClaim := { program := "ytkjmlpdbnnmlhaa", sum := "4a86ff26b47ddc336f7550bef9cd225ff3e39ebb0b4d0eea8f1ef6d8b5b544e3", func := "loop.example/g01181/laws.FnExactSwitchTicks", spec := "fnExactSwitchTicks", plainKeys := false, apart := false }
def FnExactSwitchTicksSaid : Prop := fnExactSwitchTicksRow.holds Try.pinned (OpenSpec.ofChange fnExactSwitchTicksSpec)

/-- ITS FALSE NEIGHBOUR: 'it returns false'. Refute it at one input. -/
def fnExactSwitchTicksWrong : ChangeSpec := { name := "fnExactSwitchTicks", fn := fun _ => fun
  | [d1, d2] => { results := [.lit (.bool false)], args := [d1, d2] }
  | _ => none }
def FnExactSwitchTicksWrongFalsely : Prop := fnExactSwitchTicksRow.holds Try.pinned (OpenSpec.ofChange fnExactSwitchTicksWrong)

/-- 'laws.FnExactLoadOf': WHATEVER THE INPUT: true; the input reads as it did. -/
def fnExactLoadOfSpec : ChangeSpec := { name := "fnExactLoadOf", fn := fun _ => fun
  | [d] => { results := [.lit (.bool true)], args := [d] }
  | _ => none }
def fnExactLoadOfRow : OpenClaim := { program := "ytkjmlpdbnnmlhaa", sum := "4a86ff26b47ddc336f7550bef9cd225ff3e39ebb0b4d0eea8f1ef6d8b5b544e3", func := "loop.example/g01181/laws.FnExactLoadOf", spec := "fnExactLoadOf", plainKeys := false, apart := false }
def FnExactLoadOfSaid : Prop := fnExactLoadOfRow.holds Try.pinned (OpenSpec.ofChange fnExactLoadOfSpec)

/-- ITS FALSE NEIGHBOUR: 'it returns false'. Refute it at one input. -/
def fnExactLoadOfWrong : ChangeSpec := { name := "fnExactLoadOf", fn := fun _ => fun
  | [d] => { results := [.lit (.bool false)], args := [d] }
  | _ => none }
def FnExactLoadOfWrongFalsely : Prop := fnExactLoadOfRow.holds Try.pinned (OpenSpec.ofChange fnExactLoadOfWrong)

/-- 'laws.FnExactPlanBeams': WHATEVER THE INPUT: true; the input reads as it did. -/
def fnExactPlanBeamsSpec : ChangeSpec := { name := "fnExactPlanBeams", fn := fun _ => fun
  | [d1, d2] => { results := [.lit (.bool true)], args := [d1, d2] }
  | _ => none }
def fnExactPlanBeamsRow : OpenClaim := { program := "ytkjmlpdbnnmlhaa", sum := "4a86ff26b47ddc336f7550bef9cd225ff3e39ebb0b4d0eea8f1ef6d8b5b544e3", func := "loop.example/g01181/laws.FnExactPlanBeams", spec := "fnExactPlanBeams", unfollowed := true, recurses := true, plainKeys := false, apart := false }
def FnExactPlanBeamsSaid : Prop := fnExactPlanBeamsRow.holds Try.pinned (OpenSpec.ofChange fnExactPlanBeamsSpec)

/-- ITS FALSE NEIGHBOUR: 'it returns false'. Refute it at one input. -/
def fnExactPlanBeamsWrong : ChangeSpec := { name := "fnExactPlanBeams", fn := fun _ => fun
  | [d1, d2] => { results := [.lit (.bool false)], args := [d1, d2] }
  | _ => none }
def FnExactPlanBeamsWrongFalsely : Prop := fnExactPlanBeamsRow.holds Try.pinned (OpenSpec.ofChange fnExactPlanBeamsWrong)

/-- 'laws.FnExactIsPlan': WHATEVER THE INPUT: true; the input reads as it did. -/
def fnExactIsPlanSpec : ChangeSpec := { name := "fnExactIsPlan", fn := fun _ => fun
  | [d1, d2] => { results := [.lit (.bool true)], args := [d1, d2] }
  | _ => none }
def fnExactIsPlanRow : OpenClaim := { program := "ytkjmlpdbnnmlhaa", sum := "4a86ff26b47ddc336f7550bef9cd225ff3e39ebb0b4d0eea8f1ef6d8b5b544e3", func := "loop.example/g01181/laws.FnExactIsPlan", spec := "fnExactIsPlan", plainKeys := false, apart := false }
def FnExactIsPlanSaid : Prop := fnExactIsPlanRow.holds Try.pinned (OpenSpec.ofChange fnExactIsPlanSpec)

/-- ITS FALSE NEIGHBOUR: 'it returns false'. Refute it at one input. -/
def fnExactIsPlanWrong : ChangeSpec := { name := "fnExactIsPlan", fn := fun _ => fun
  | [d1, d2] => { results := [.lit (.bool false)], args := [d1, d2] }
  | _ => none }
def FnExactIsPlanWrongFalsely : Prop := fnExactIsPlanRow.holds Try.pinned (OpenSpec.ofChange fnExactIsPlanWrong)

/-- 'laws.FnExactLatenessOf': WHATEVER THE INPUT: true; the input reads as it did. -/
def fnExactLatenessOfSpec : ChangeSpec := { name := "fnExactLatenessOf", fn := fun _ => fun
  | [d1, d2] => { results := [.lit (.bool true)], args := [d1, d2] }
  | _ => none }
def fnExactLatenessOfRow : OpenClaim := { program := "ytkjmlpdbnnmlhaa", sum := "4a86ff26b47ddc336f7550bef9cd225ff3e39ebb0b4d0eea8f1ef6d8b5b544e3", func := "loop.example/g01181/laws.FnExactLatenessOf", spec := "fnExactLatenessOf", plainKeys := false, apart := false }
def FnExactLatenessOfSaid : Prop := fnExactLatenessOfRow.holds Try.pinned (OpenSpec.ofChange fnExactLatenessOfSpec)

/-- ITS FALSE NEIGHBOUR: 'it returns false'. Refute it at one input. -/
def fnExactLatenessOfWrong : ChangeSpec := { name := "fnExactLatenessOf", fn := fun _ => fun
  | [d1, d2] => { results := [.lit (.bool false)], args := [d1, d2] }
  | _ => none }
def FnExactLatenessOfWrongFalsely : Prop := fnExactLatenessOfRow.holds Try.pinned (OpenSpec.ofChange fnExactLatenessOfWrong)

/-- 'laws.FnExactMissedOf': WHATEVER THE INPUT: true; the input reads as it did. -/
def fnExactMissedOfSpec : ChangeSpec := { name := "fnExactMissedOf", fn := fun _ => fun
  | [d1, d2, d3] => { results := [.lit (.bool true)], args := [d1, d2, d3] }
  | _ => none }
def fnExactMissedOfRow : OpenClaim := { program := "ytkjmlpdbnnmlhaa", sum := "4a86ff26b47ddc336f7550bef9cd225ff3e39ebb0b4d0eea8f1ef6d8b5b544e3", func := "loop.example/g01181/laws.FnExactMissedOf", spec := "fnExactMissedOf", plainKeys := false, apart := false }
def FnExactMissedOfSaid : Prop := fnExactMissedOfRow.holds Try.pinned (OpenSpec.ofChange fnExactMissedOfSpec)

/-- ITS FALSE NEIGHBOUR: 'it returns false'. Refute it at one input. -/
def fnExactMissedOfWrong : ChangeSpec := { name := "fnExactMissedOf", fn := fun _ => fun
  | [d1, d2, d3] => { results := [.lit (.bool false)], args := [d1, d2, d3] }
  | _ => none }
def FnExactMissedOfWrongFalsely : Prop := fnExactMissedOfRow.holds Try.pinned (OpenSpec.ofChange fnExactMissedOfWrong)

/-- 'laws.FnExactBusyTicks': WHATEVER THE INPUT: true; the input reads as it did. -/
def fnExactBusyTicksSpec : ChangeSpec := { name := "fnExactBusyTicks", fn := fun _ => fun
  | [d1, d2] => { results := [.lit (.bool true)], args := [d1, d2] }
  | _ => none }
def fnExactBusyTicksRow : OpenClaim := { program := "ytkjmlpdbnnmlhaa", sum := "4a86ff26b47ddc336f7550bef9cd225ff3e39ebb0b4d0eea8f1ef6d8b5b544e3", func := "loop.example/g01181/laws.FnExactBusyTicks", spec := "fnExactBusyTicks", plainKeys := false, apart := false }
def FnExactBusyTicksSaid : Prop := fnExactBusyTicksRow.holds Try.pinned (OpenSpec.ofChange fnExactBusyTicksSpec)

/-- ITS FALSE NEIGHBOUR: 'it returns false'. Refute it at one input. -/
def fnExactBusyTicksWrong : ChangeSpec := { name := "fnExactBusyTicks", fn := fun _ => fun
  | [d1, d2] => { results := [.lit (.bool false)], args := [d1, d2] }
  | _ => none }
def FnExactBusyTicksWrongFalsely : Prop := fnExactBusyTicksRow.holds Try.pinned (OpenSpec.ofChange fnExactBusyTicksWrong)

/-- 'laws.FnExactShortestTour': WHATEVER THE INPUT: true; the input reads as it did. -/
def fnExactShortestTourSpec : ChangeSpec := { name := "fnExactShortestTour", fn := fun _ => fun
  | [d] => { results := [.lit (.bool true)], args := [d] }
  | _ => none }
def fnExactShortestTourRow : OpenClaim := { program := "ytkjmlpdbnnmlhaa", sum := "4a86ff26b47ddc336f7550bef9cd225ff3e39ebb0b4d0eea8f1ef6d8b5b544e3", func := "loop.example/g01181/laws.FnExactShortestTour", spec := "fnExactShortestTour", recurses := true, plainKeys := false, apart := false }
def FnExactShortestTourSaid : Prop := fnExactShortestTourRow.holds Try.pinned (OpenSpec.ofChange fnExactShortestTourSpec)

/-- ITS FALSE NEIGHBOUR: 'it returns false'. Refute it at one input. -/
def fnExactShortestTourWrong : ChangeSpec := { name := "fnExactShortestTour", fn := fun _ => fun
  | [d] => { results := [.lit (.bool false)], args := [d] }
  | _ => none }
def FnExactShortestTourWrongFalsely : Prop := fnExactShortestTourRow.holds Try.pinned (OpenSpec.ofChange fnExactShortestTourWrong)

/-- 'laws.FnExactTourTicks': WHATEVER THE INPUT: true; the input reads as it did. -/
def fnExactTourTicksSpec : ChangeSpec := { name := "fnExactTourTicks", fn := fun _ => fun
  | [d1, d2] => { results := [.lit (.bool true)], args := [d1, d2] }
  | _ => none }
def fnExactTourTicksRow : OpenClaim := { program := "ytkjmlpdbnnmlhaa", sum := "4a86ff26b47ddc336f7550bef9cd225ff3e39ebb0b4d0eea8f1ef6d8b5b544e3", func := "loop.example/g01181/laws.FnExactTourTicks", spec := "fnExactTourTicks", unfollowed := true, recurses := true, plainKeys := false, apart := false }
def FnExactTourTicksSaid : Prop := fnExactTourTicksRow.holds Try.pinned (OpenSpec.ofChange fnExactTourTicksSpec)

/-- ITS FALSE NEIGHBOUR: 'it returns false'. Refute it at one input. -/
def fnExactTourTicksWrong : ChangeSpec := { name := "fnExactTourTicks", fn := fun _ => fun
  | [d1, d2] => { results := [.lit (.bool false)], args := [d1, d2] }
  | _ => none }
def FnExactTourTicksWrongFalsely : Prop := fnExactTourTicksRow.holds Try.pinned (OpenSpec.ofChange fnExactTourTicksWrong)

/-- 'laws.FnExactFarBeams': WHATEVER THE INPUT: true; the input reads as it did. -/
def fnExactFarBeamsSpec : ChangeSpec := { name := "fnExactFarBeams", fn := fun _ => fun
  | [d1, d2] => { results := [.lit (.bool true)], args := [d1, d2] }
  | _ => none }
def fnExactFarBeamsRow : OpenClaim := { program := "ytkjmlpdbnnmlhaa", sum := "4a86ff26b47ddc336f7550bef9cd225ff3e39ebb0b4d0eea8f1ef6d8b5b544e3", func := "loop.example/g01181/laws.FnExactFarBeams", spec := "fnExactFarBeams", unfollowed := true, recurses := true, plainKeys := false, apart := false }
def FnExactFarBeamsSaid : Prop := fnExactFarBeamsRow.holds Try.pinned (OpenSpec.ofChange fnExactFarBeamsSpec)

/-- ITS FALSE NEIGHBOUR: 'it returns false'. Refute it at one input. -/
def fnExactFarBeamsWrong : ChangeSpec := { name := "fnExactFarBeams", fn := fun _ => fun
  | [d1, d2] => { results := [.lit (.bool false)], args := [d1, d2] }
  | _ => none }
def FnExactFarBeamsWrongFalsely : Prop := fnExactFarBeamsRow.holds Try.pinned (OpenSpec.ofChange fnExactFarBeamsWrong)

/-- 'laws.FnExactNearestBeam': WHATEVER THE INPUT: true; the input reads as it did. -/
def fnExactNearestBeamSpec : ChangeSpec := { name := "fnExactNearestBeam", fn := fun _ => fun
  | [d1, d2] => { results := [.lit (.bool true)], args := [d1, d2] }
  | _ => none }
def fnExactNearestBeamRow : OpenClaim := { program := "ytkjmlpdbnnmlhaa", sum := "4a86ff26b47ddc336f7550bef9cd225ff3e39ebb0b4d0eea8f1ef6d8b5b544e3", func := "loop.example/g01181/laws.FnExactNearestBeam", spec := "fnExactNearestBeam", plainKeys := false, apart := false }
def FnExactNearestBeamSaid : Prop := fnExactNearestBeamRow.holds Try.pinned (OpenSpec.ofChange fnExactNearestBeamSpec)

/-- ITS FALSE NEIGHBOUR: 'it returns false'. Refute it at one input. -/
def fnExactNearestBeamWrong : ChangeSpec := { name := "fnExactNearestBeam", fn := fun _ => fun
  | [d1, d2] => { results := [.lit (.bool false)], args := [d1, d2] }
  | _ => none }
def FnExactNearestBeamWrongFalsely : Prop := fnExactNearestBeamRow.holds Try.pinned (OpenSpec.ofChange fnExactNearestBeamWrong)

/- THE SECOND FORM. 'bulk': how many values and letters a reading holds, each counted each time it is reached (what is shared counts as often as it is met; a slice's spare places count too). A statement '..UptoSaid' is the law's where the arguments, and the package variables that the reading takes, are together of bulk at most 1048576: NARROWER than '..Said'. Prove '..Said' where nothing that the law and all that it calls make is longer than what came in: it says more and counts as full. Else prove '..UptoSaid'. A law counts once. -/
mutual
def uptoBulk {H : Type} : DataW H → Nat
  | .lit (.string bytes) => bytes.length + 1
  | .lit _ => 1
  | .nil => 1
  | .ptr d => uptoBulk d + 1
  | .slice elems spare => uptoBulkAll elems + uptoBulkAll spare + 1
  | .agg parts => uptoBulkAll parts + 1
  | .iface _ d => uptoBulk d + 1
  | .map entries => uptoBulkEntries entries + 1
  | .held _ => 1
def uptoBulkAll {H : Type} : List (DataW H) → Nat
  | [] => 0
  | d :: r => uptoBulk d + uptoBulkAll r
def uptoBulkEntries {H : Type} : List (Lit × DataW H) → Nat
  | [] => 0
  | x :: r => uptoBulkEntry x + uptoBulkEntries r
def uptoBulkEntry {H : Type} : Lit × DataW H → Nat
  | (.string bytes, d) => bytes.length + uptoBulk d + 1
  | (_, d) => uptoBulk d + 1
 end
def uptoSmall : (H : Type) → List (DataW H) → Bool := fun _ ds => decide (uptoBulkAll ds ≤ 1048576)
def OpenSpec.upto (s : _root_.Go.ChangeSpec) : _root_.Go.OpenSpec := { _root_.Go.OpenSpec.ofChange s with cond := some uptoSmall }

/-- 'laws.FnExactAreBeams', WHERE WHAT IT READS IS OF BULK AT MOST 1048576: true; the input reads as it did. -/
def fnExactAreBeamsUptoRow : OpenClaim := { program := "ytkjmlpdbnnmlhaa", sum := "4a86ff26b47ddc336f7550bef9cd225ff3e39ebb0b4d0eea8f1ef6d8b5b544e3", func := "loop.example/g01181/laws.FnExactAreBeams", spec := "fnExactAreBeams", plainKeys := false, apart := false, narrowed := true }
def FnExactAreBeamsUptoSaid : Prop := fnExactAreBeamsUptoRow.holds Try.pinned (OpenSpec.upto fnExactAreBeamsSpec)

/-- 'laws.FnExactSwitchTicks', WHERE WHAT IT READS IS OF BULK AT MOST 1048576: true; the input reads as it did. -/
def fnExactSwitchTicksUptoRow : OpenClaim := { program := "ytkjmlpdbnnmlhaa", sum := "4a86ff26b47ddc336f7550bef9cd225ff3e39ebb0b4d0eea8f1ef6d8b5b544e3", func := "loop.example/g01181/laws.FnExactSwitchTicks", spec := "fnExactSwitchTicks", plainKeys := false, apart := false, narrowed := true }
def FnExactSwitchTicksUptoSaid : Prop := fnExactSwitchTicksUptoRow.holds Try.pinned (OpenSpec.upto fnExactSwitchTicksSpec)

/-- 'laws.FnExactLoadOf', WHERE WHAT IT READS IS OF BULK AT MOST 1048576: true; the input reads as it did. -/
def fnExactLoadOfUptoRow : OpenClaim := { program := "ytkjmlpdbnnmlhaa", sum := "4a86ff26b47ddc336f7550bef9cd225ff3e39ebb0b4d0eea8f1ef6d8b5b544e3", func := "loop.example/g01181/laws.FnExactLoadOf", spec := "fnExactLoadOf", plainKeys := false, apart := false, narrowed := true }
def FnExactLoadOfUptoSaid : Prop := fnExactLoadOfUptoRow.holds Try.pinned (OpenSpec.upto fnExactLoadOfSpec)

/-- 'laws.FnExactPlanBeams', WHERE WHAT IT READS IS OF BULK AT MOST 1048576: true; the input reads as it did. -/
def fnExactPlanBeamsUptoRow : OpenClaim := { program := "ytkjmlpdbnnmlhaa", sum := "4a86ff26b47ddc336f7550bef9cd225ff3e39ebb0b4d0eea8f1ef6d8b5b544e3", func := "loop.example/g01181/laws.FnExactPlanBeams", spec := "fnExactPlanBeams", unfollowed := true, recurses := true, plainKeys := false, apart := false, narrowed := true }
def FnExactPlanBeamsUptoSaid : Prop := fnExactPlanBeamsUptoRow.holds Try.pinned (OpenSpec.upto fnExactPlanBeamsSpec)

/-- 'laws.FnExactIsPlan', WHERE WHAT IT READS IS OF BULK AT MOST 1048576: true; the input reads as it did. -/
def fnExactIsPlanUptoRow : OpenClaim := { program := "ytkjmlpdbnnmlhaa", sum := "4a86ff26b47ddc336f7550bef9cd225ff3e39ebb0b4d0eea8f1ef6d8b5b544e3", func := "loop.example/g01181/laws.FnExactIsPlan", spec := "fnExactIsPlan", plainKeys := false, apart := false, narrowed := true }
def FnExactIsPlanUptoSaid : Prop := fnExactIsPlanUptoRow.holds Try.pinned (OpenSpec.upto fnExactIsPlanSpec)

/-- 'laws.FnExactLatenessOf', WHERE WHAT IT READS IS OF BULK AT MOST 1048576: true; the input reads as it did. -/
def fnExactLatenessOfUptoRow : OpenClaim := { program := "ytkjmlpdbnnmlhaa", sum := "4a86ff26b47ddc336f7550bef9cd225ff3e39ebb0b4d0eea8f1ef6d8b5b544e3", func := "loop.example/g01181/laws.FnExactLatenessOf", spec := "fnExactLatenessOf", plainKeys := false, apart := false, narrowed := true }
def FnExactLatenessOfUptoSaid : Prop := fnExactLatenessOfUptoRow.holds Try.pinned (OpenSpec.upto fnExactLatenessOfSpec)

/-- 'laws.FnExactMissedOf', WHERE WHAT IT READS IS OF BULK AT MOST 1048576: true; the input reads as it did. -/
def fnExactMissedOfUptoRow : OpenClaim := { program := "ytkjmlpdbnnmlhaa", sum := "4a86ff26b47ddc336f7550bef9cd225ff3e39ebb0b4d0eea8f1ef6d8b5b544e3", func := "loop.example/g01181/laws.FnExactMissedOf", spec := "fnExactMissedOf", plainKeys := false, apart := false, narrowed := true }
def FnExactMissedOfUptoSaid : Prop := fnExactMissedOfUptoRow.holds Try.pinned (OpenSpec.upto fnExactMissedOfSpec)

/-- 'laws.FnExactBusyTicks', WHERE WHAT IT READS IS OF BULK AT MOST 1048576: true; the input reads as it did. -/
def fnExactBusyTicksUptoRow : OpenClaim := { program := "ytkjmlpdbnnmlhaa", sum := "4a86ff26b47ddc336f7550bef9cd225ff3e39ebb0b4d0eea8f1ef6d8b5b544e3", func := "loop.example/g01181/laws.FnExactBusyTicks", spec := "fnExactBusyTicks", plainKeys := false, apart := false, narrowed := true }
def FnExactBusyTicksUptoSaid : Prop := fnExactBusyTicksUptoRow.holds Try.pinned (OpenSpec.upto fnExactBusyTicksSpec)

/-- 'laws.FnExactShortestTour', WHERE WHAT IT READS IS OF BULK AT MOST 1048576: true; the input reads as it did. -/
def fnExactShortestTourUptoRow : OpenClaim := { program := "ytkjmlpdbnnmlhaa", sum := "4a86ff26b47ddc336f7550bef9cd225ff3e39ebb0b4d0eea8f1ef6d8b5b544e3", func := "loop.example/g01181/laws.FnExactShortestTour", spec := "fnExactShortestTour", recurses := true, plainKeys := false, apart := false, narrowed := true }
def FnExactShortestTourUptoSaid : Prop := fnExactShortestTourUptoRow.holds Try.pinned (OpenSpec.upto fnExactShortestTourSpec)

/-- 'laws.FnExactTourTicks', WHERE WHAT IT READS IS OF BULK AT MOST 1048576: true; the input reads as it did. -/
def fnExactTourTicksUptoRow : OpenClaim := { program := "ytkjmlpdbnnmlhaa", sum := "4a86ff26b47ddc336f7550bef9cd225ff3e39ebb0b4d0eea8f1ef6d8b5b544e3", func := "loop.example/g01181/laws.FnExactTourTicks", spec := "fnExactTourTicks", unfollowed := true, recurses := true, plainKeys := false, apart := false, narrowed := true }
def FnExactTourTicksUptoSaid : Prop := fnExactTourTicksUptoRow.holds Try.pinned (OpenSpec.upto fnExactTourTicksSpec)

/-- 'laws.FnExactFarBeams', WHERE WHAT IT READS IS OF BULK AT MOST 1048576: true; the input reads as it did. -/
def fnExactFarBeamsUptoRow : OpenClaim := { program := "ytkjmlpdbnnmlhaa", sum := "4a86ff26b47ddc336f7550bef9cd225ff3e39ebb0b4d0eea8f1ef6d8b5b544e3", func := "loop.example/g01181/laws.FnExactFarBeams", spec := "fnExactFarBeams", unfollowed := true, recurses := true, plainKeys := false, apart := false, narrowed := true }
def FnExactFarBeamsUptoSaid : Prop := fnExactFarBeamsUptoRow.holds Try.pinned (OpenSpec.upto fnExactFarBeamsSpec)

/-- 'laws.FnExactNearestBeam', WHERE WHAT IT READS IS OF BULK AT MOST 1048576: true; the input reads as it did. -/
def fnExactNearestBeamUptoRow : OpenClaim := { program := "ytkjmlpdbnnmlhaa", sum := "4a86ff26b47ddc336f7550bef9cd225ff3e39ebb0b4d0eea8f1ef6d8b5b544e3", func := "loop.example/g01181/laws.FnExactNearestBeam", spec := "fnExactNearestBeam", plainKeys := false, apart := false, narrowed := true }
def FnExactNearestBeamUptoSaid : Prop := fnExactNearestBeamUptoRow.holds Try.pinned (OpenSpec.upto fnExactNearestBeamSpec)

end Rows
end Go.Proofs.Ytkjmlpdbnnmlhaa
