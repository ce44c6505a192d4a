/-
  DERIVED. GIVEN WITH THE SEED: THE CARDS: each row of YtbefoiikbbjjfaaDoorRows.lean that lists a variable, with what it lists TIED to the program's text (the seventh form; the later family's looks); each row that meets fmt, with fmt's text TOLD by the authors' own Lean function (tested against real Go, not proved from fmt's source: count such statements apart). THE CARD IS WHAT COUNTS. Prove the row's statement (the work); the ties are given (YtbefoiikbbjjfaaDoorTie.lean); close each card by the builder's one call (the guide's Derived/Test/ToyasCard.lean, 'card_holds'). Laid BY PROGRAM, IN A SANDBOX (cutbox-door.mjs). By AI agents, Wed Nov 11 2026. No macro, syntax, notation, axiom, sorry.
-/
import Derived.Test.YtbefoiikbbjjfaaDoorRows
import GoSem.ClaimSeven
namespace Go.Proofs.YtbefoiikbbjjfaaDoor
namespace Rows

/-- THE TIED CARD OF 'laws.FnExactFirstDifference'. -/
def fnExactFirstDifferenceCard : Claim7 := { stood := { row := fnExactFirstDifferenceRow, standIns := [], harness := (true, "e8c69626d9a6e9d4d10a1cc3967dadcb701df389db10ecff653514e12663fc3b"), looks := true }, kinds := [], alts := [], laidByText := true, laidKinds := [.sentinel], laidTests := true, laidLooks := .later }
def FnExactFirstDifferenceCardSaid : Prop := Claim7.holds Tryd.pinned (.plain (OpenSpec.ofChange fnExactFirstDifferenceSpec)) fnExactFirstDifferenceCard

/-- THE TIED CARD OF 'laws.FnExactFrameAt'. -/
def fnExactFrameAtCard : Claim7 := { stood := { row := fnExactFrameAtRow, standIns := [], harness := (true, "e8c69626d9a6e9d4d10a1cc3967dadcb701df389db10ecff653514e12663fc3b"), looks := true }, kinds := [], alts := [], laidByText := true, laidKinds := [.sentinel, .sentinel, .sentinel, .sentinel], laidTests := true, laidLooks := .later }
def FnExactFrameAtCardSaid : Prop := Claim7.holds Tryd.pinned (.plain (OpenSpec.ofChange fnExactFrameAtSpec)) fnExactFrameAtCard

/-- THE TIED CARD OF 'laws.FnExactLoadRecord'. -/
def fnExactLoadRecordCard : Claim7 := { stood := { row := fnExactLoadRecordRow, standIns := [], harness := (true, "e8c69626d9a6e9d4d10a1cc3967dadcb701df389db10ecff653514e12663fc3b"), looks := true }, kinds := [], alts := [], laidByText := true, laidKinds := [.sentinel, .sentinel, .sentinel, .sentinel, .sentinel], laidTests := true, laidLooks := .later }
def FnExactLoadRecordCardSaid : Prop := Claim7.holds Tryd.pinned (.plain (OpenSpec.ofChange fnExactLoadRecordSpec)) fnExactLoadRecordCard

/-- THE TIED CARD OF 'laws.FnExactRecoverRecord'. -/
def fnExactRecoverRecordCard : Claim7 := { stood := { row := fnExactRecoverRecordRow, standIns := [], harness := (true, "e8c69626d9a6e9d4d10a1cc3967dadcb701df389db10ecff653514e12663fc3b"), looks := true }, kinds := [], alts := [], laidByText := true, laidKinds := [.sentinel, .sentinel, .sentinel, .sentinel, .sentinel], laidTests := true, laidLooks := .later }
def FnExactRecoverRecordCardSaid : Prop := Claim7.holds Tryd.pinned (.plain (OpenSpec.ofChange fnExactRecoverRecordSpec)) fnExactRecoverRecordCard

/-- THE TIED CARD OF 'laws.FnKept'. -/
def fnKeptCard : Claim7 := { stood := { row := fnKeptRow, standIns := [], harness := (true, "e8c69626d9a6e9d4d10a1cc3967dadcb701df389db10ecff653514e12663fc3b"), looks := true }, kinds := [], alts := [], laidByText := true, laidKinds := [.sentinel, .sentinel, .sentinel, .sentinel, .sentinel], laidTests := true, laidLooks := .later }
def FnKeptCardSaid : Prop := Claim7.holds Tryd.pinned (.plain (OpenSpec.ofChange fnKeptSpec)) fnKeptCard

/-- THE SECOND FORM's CARD OF 'laws.FnExactFirstDifference'. -/
def fnExactFirstDifferenceUptoCard : Claim7 := { stood := { row := fnExactFirstDifferenceUptoRow, standIns := [], harness := (true, "e8c69626d9a6e9d4d10a1cc3967dadcb701df389db10ecff653514e12663fc3b"), looks := true }, kinds := [], alts := [], laidByText := true, laidKinds := [.sentinel], laidTests := true, laidLooks := .later }
def FnExactFirstDifferenceUptoCardSaid : Prop := Claim7.holds Tryd.pinned (.plain (OpenSpec.upto fnExactFirstDifferenceSpec)) fnExactFirstDifferenceUptoCard

/-- THE SECOND FORM's CARD OF 'laws.FnExactFrameAt'. -/
def fnExactFrameAtUptoCard : Claim7 := { stood := { row := fnExactFrameAtUptoRow, standIns := [], harness := (true, "e8c69626d9a6e9d4d10a1cc3967dadcb701df389db10ecff653514e12663fc3b"), looks := true }, kinds := [], alts := [], laidByText := true, laidKinds := [.sentinel, .sentinel, .sentinel, .sentinel], laidTests := true, laidLooks := .later }
def FnExactFrameAtUptoCardSaid : Prop := Claim7.holds Tryd.pinned (.plain (OpenSpec.upto fnExactFrameAtSpec)) fnExactFrameAtUptoCard

/-- THE SECOND FORM's CARD OF 'laws.FnExactLoadRecord'. -/
def fnExactLoadRecordUptoCard : Claim7 := { stood := { row := fnExactLoadRecordUptoRow, standIns := [], harness := (true, "e8c69626d9a6e9d4d10a1cc3967dadcb701df389db10ecff653514e12663fc3b"), looks := true }, kinds := [], alts := [], laidByText := true, laidKinds := [.sentinel, .sentinel, .sentinel, .sentinel, .sentinel], laidTests := true, laidLooks := .later }
def FnExactLoadRecordUptoCardSaid : Prop := Claim7.holds Tryd.pinned (.plain (OpenSpec.upto fnExactLoadRecordSpec)) fnExactLoadRecordUptoCard

/-- THE SECOND FORM's CARD OF 'laws.FnExactRecoverRecord'. -/
def fnExactRecoverRecordUptoCard : Claim7 := { stood := { row := fnExactRecoverRecordUptoRow, standIns := [], harness := (true, "e8c69626d9a6e9d4d10a1cc3967dadcb701df389db10ecff653514e12663fc3b"), looks := true }, kinds := [], alts := [], laidByText := true, laidKinds := [.sentinel, .sentinel, .sentinel, .sentinel, .sentinel], laidTests := true, laidLooks := .later }
def FnExactRecoverRecordUptoCardSaid : Prop := Claim7.holds Tryd.pinned (.plain (OpenSpec.upto fnExactRecoverRecordSpec)) fnExactRecoverRecordUptoCard

/-- THE SECOND FORM's CARD OF 'laws.FnKept'. -/
def fnKeptUptoCard : Claim7 := { stood := { row := fnKeptUptoRow, standIns := [], harness := (true, "e8c69626d9a6e9d4d10a1cc3967dadcb701df389db10ecff653514e12663fc3b"), looks := true }, kinds := [], alts := [], laidByText := true, laidKinds := [.sentinel, .sentinel, .sentinel, .sentinel, .sentinel], laidTests := true, laidLooks := .later }
def FnKeptUptoCardSaid : Prop := Claim7.holds Tryd.pinned (.plain (OpenSpec.upto fnKeptSpec)) fnKeptUptoCard
end Rows
end Go.Proofs.YtbefoiikbbjjfaaDoor
