/-
  DERIVED. GIVEN WITH THE SEED: THE CARDS: each row of YthlfclnfkgiddaaDoorRows.lean that lists a variable, with what it lists TIED to the program's text (the seventh form; the later family's looks); each row that meets fmt, with fmt's text TOLD by the authors' own Lean function (tested against real Go, not proved from fmt's source: count such statements apart). THE CARD IS WHAT COUNTS. Prove the row's statement (the work); the ties are given (YthlfclnfkgiddaaDoorTie.lean); close each card by the builder's one call (the guide's Derived/Test/ToyasCard.lean, 'card_holds'). Laid BY PROGRAM, IN A SANDBOX (cutbox-door.mjs). By AI agents, Wed Nov 11 2026. No macro, syntax, notation, axiom, sorry.
-/
import Derived.Test.YthlfclnfkgiddaaDoorRows
import GoSem.ClaimSeven
namespace Go.Proofs.YthlfclnfkgiddaaDoor
namespace Rows

/-- THE TIED CARD OF 'laws.FnJournal'. -/
def fnJournalCard : Claim7 := { stood := { row := fnJournalRow, standIns := [], harness := (true, "cd60491e7eea066fea3cbdb3a3b8d3da9f9c65a0ffb199e6bc5583a157fd0e04"), looks := true }, kinds := [], alts := [], laidByText := true, laidKinds := [.data, .data, .data], laidTests := true, laidLooks := .later }
def FnJournalCardSaid : Prop := Claim7.holds Tryd.pinned (.plain (OpenSpec.ofChange fnJournalSpec)) fnJournalCard

/-- THE TIED CARD OF 'laws.FnKept'. -/
def fnKeptCard : Claim7 := { stood := { row := fnKeptRow, standIns := [], harness := (true, "cd60491e7eea066fea3cbdb3a3b8d3da9f9c65a0ffb199e6bc5583a157fd0e04"), looks := true }, kinds := [], alts := [], laidByText := true, laidKinds := [.sentinel, .sentinel, .sentinel, .sentinel, .sentinel], laidTests := true, laidLooks := .later }
def FnKeptCardSaid : Prop := Claim7.holds Tryd.pinned (.plain (OpenSpec.ofChange fnKeptSpec)) fnKeptCard

/-- THE TIED CARD OF 'laws.FnExactReadList'. -/
def fnExactReadListCard : Claim7 := { stood := { row := fnExactReadListRow, standIns := [], harness := (true, "cd60491e7eea066fea3cbdb3a3b8d3da9f9c65a0ffb199e6bc5583a157fd0e04"), looks := true }, kinds := [], alts := [], laidByText := true, laidKinds := [.data, .data, .data, .data, .sentinel, .sentinel, .pinned], laidTests := true, laidLooks := .later }
def FnExactReadListCardSaid : Prop := Claim7.holds Tryd.pinned (.plain (OpenSpec.ofChange fnExactReadListSpec)) fnExactReadListCard

/-- THE TIED CARD OF 'laws.FnExactLoadRecord'. -/
def fnExactLoadRecordCard : Claim7 := { stood := { row := fnExactLoadRecordRow, standIns := [], harness := (true, "cd60491e7eea066fea3cbdb3a3b8d3da9f9c65a0ffb199e6bc5583a157fd0e04"), looks := true }, kinds := [], alts := [], laidByText := true, laidKinds := [.sentinel, .sentinel, .sentinel, .sentinel, .sentinel], laidTests := true, laidLooks := .later }
def FnExactLoadRecordCardSaid : Prop := Claim7.holds Tryd.pinned (.plain (OpenSpec.ofChange fnExactLoadRecordSpec)) fnExactLoadRecordCard

/-- THE TIED CARD OF 'laws.FnExactRecoverRecord'. -/
def fnExactRecoverRecordCard : Claim7 := { stood := { row := fnExactRecoverRecordRow, standIns := [], harness := (true, "cd60491e7eea066fea3cbdb3a3b8d3da9f9c65a0ffb199e6bc5583a157fd0e04"), looks := true }, kinds := [], alts := [], laidByText := true, laidKinds := [.sentinel, .sentinel, .sentinel, .sentinel, .sentinel], laidTests := true, laidLooks := .later }
def FnExactRecoverRecordCardSaid : Prop := Claim7.holds Tryd.pinned (.plain (OpenSpec.ofChange fnExactRecoverRecordSpec)) fnExactRecoverRecordCard

/-- THE TIED CARD OF 'laws.FnExactFrameAt'. -/
def fnExactFrameAtCard : Claim7 := { stood := { row := fnExactFrameAtRow, standIns := [], harness := (true, "cd60491e7eea066fea3cbdb3a3b8d3da9f9c65a0ffb199e6bc5583a157fd0e04"), looks := true }, kinds := [], alts := [], laidByText := true, laidKinds := [.sentinel, .sentinel, .sentinel, .sentinel], laidTests := true, laidLooks := .later }
def FnExactFrameAtCardSaid : Prop := Claim7.holds Tryd.pinned (.plain (OpenSpec.ofChange fnExactFrameAtSpec)) fnExactFrameAtCard

/-- THE TIED CARD OF 'laws.FnExactJournalOf'. -/
def fnExactJournalOfCard : Claim7 := { stood := { row := fnExactJournalOfRow, standIns := [], harness := (true, "cd60491e7eea066fea3cbdb3a3b8d3da9f9c65a0ffb199e6bc5583a157fd0e04"), looks := true }, kinds := [], alts := [], laidByText := true, laidKinds := [.data, .data, .data], laidTests := true, laidLooks := .later }
def FnExactJournalOfCardSaid : Prop := Claim7.holds Tryd.pinned (.plain (OpenSpec.ofChange fnExactJournalOfSpec)) fnExactJournalOfCard

/-- THE TIED CARD OF 'laws.FnExactRecoverJournal'. -/
def fnExactRecoverJournalCard : Claim7 := { stood := { row := fnExactRecoverJournalRow, standIns := [], harness := (true, "cd60491e7eea066fea3cbdb3a3b8d3da9f9c65a0ffb199e6bc5583a157fd0e04"), looks := true }, kinds := [], alts := [], laidByText := true, laidKinds := [.data, .data, .data], laidTests := true, laidLooks := .later }
def FnExactRecoverJournalCardSaid : Prop := Claim7.holds Tryd.pinned (.plain (OpenSpec.ofChange fnExactRecoverJournalSpec)) fnExactRecoverJournalCard

/-- THE SECOND FORM's CARD OF 'laws.FnJournal'. -/
def fnJournalUptoCard : Claim7 := { stood := { row := fnJournalUptoRow, standIns := [], harness := (true, "cd60491e7eea066fea3cbdb3a3b8d3da9f9c65a0ffb199e6bc5583a157fd0e04"), looks := true }, kinds := [], alts := [], laidByText := true, laidKinds := [.data, .data, .data], laidTests := true, laidLooks := .later }
def FnJournalUptoCardSaid : Prop := Claim7.holds Tryd.pinned (.plain (OpenSpec.upto fnJournalSpec)) fnJournalUptoCard

/-- THE SECOND FORM's CARD OF 'laws.FnKept'. -/
def fnKeptUptoCard : Claim7 := { stood := { row := fnKeptUptoRow, standIns := [], harness := (true, "cd60491e7eea066fea3cbdb3a3b8d3da9f9c65a0ffb199e6bc5583a157fd0e04"), looks := true }, kinds := [], alts := [], laidByText := true, laidKinds := [.sentinel, .sentinel, .sentinel, .sentinel, .sentinel], laidTests := true, laidLooks := .later }
def FnKeptUptoCardSaid : Prop := Claim7.holds Tryd.pinned (.plain (OpenSpec.upto fnKeptSpec)) fnKeptUptoCard

/-- THE SECOND FORM's CARD OF 'laws.FnExactReadList'. -/
def fnExactReadListUptoCard : Claim7 := { stood := { row := fnExactReadListUptoRow, standIns := [], harness := (true, "cd60491e7eea066fea3cbdb3a3b8d3da9f9c65a0ffb199e6bc5583a157fd0e04"), looks := true }, kinds := [], alts := [], laidByText := true, laidKinds := [.data, .data, .data, .data, .sentinel, .sentinel, .pinned], laidTests := true, laidLooks := .later }
def FnExactReadListUptoCardSaid : Prop := Claim7.holds Tryd.pinned (.plain (OpenSpec.upto fnExactReadListSpec)) fnExactReadListUptoCard

/-- THE SECOND FORM's CARD OF 'laws.FnExactLoadRecord'. -/
def fnExactLoadRecordUptoCard : Claim7 := { stood := { row := fnExactLoadRecordUptoRow, standIns := [], harness := (true, "cd60491e7eea066fea3cbdb3a3b8d3da9f9c65a0ffb199e6bc5583a157fd0e04"), looks := true }, kinds := [], alts := [], laidByText := true, laidKinds := [.sentinel, .sentinel, .sentinel, .sentinel, .sentinel], laidTests := true, laidLooks := .later }
def FnExactLoadRecordUptoCardSaid : Prop := Claim7.holds Tryd.pinned (.plain (OpenSpec.upto fnExactLoadRecordSpec)) fnExactLoadRecordUptoCard

/-- THE SECOND FORM's CARD OF 'laws.FnExactRecoverRecord'. -/
def fnExactRecoverRecordUptoCard : Claim7 := { stood := { row := fnExactRecoverRecordUptoRow, standIns := [], harness := (true, "cd60491e7eea066fea3cbdb3a3b8d3da9f9c65a0ffb199e6bc5583a157fd0e04"), looks := true }, kinds := [], alts := [], laidByText := true, laidKinds := [.sentinel, .sentinel, .sentinel, .sentinel, .sentinel], laidTests := true, laidLooks := .later }
def FnExactRecoverRecordUptoCardSaid : Prop := Claim7.holds Tryd.pinned (.plain (OpenSpec.upto fnExactRecoverRecordSpec)) fnExactRecoverRecordUptoCard

/-- THE SECOND FORM's CARD OF 'laws.FnExactFrameAt'. -/
def fnExactFrameAtUptoCard : Claim7 := { stood := { row := fnExactFrameAtUptoRow, standIns := [], harness := (true, "cd60491e7eea066fea3cbdb3a3b8d3da9f9c65a0ffb199e6bc5583a157fd0e04"), looks := true }, kinds := [], alts := [], laidByText := true, laidKinds := [.sentinel, .sentinel, .sentinel, .sentinel], laidTests := true, laidLooks := .later }
def FnExactFrameAtUptoCardSaid : Prop := Claim7.holds Tryd.pinned (.plain (OpenSpec.upto fnExactFrameAtSpec)) fnExactFrameAtUptoCard

/-- THE SECOND FORM's CARD OF 'laws.FnExactJournalOf'. -/
def fnExactJournalOfUptoCard : Claim7 := { stood := { row := fnExactJournalOfUptoRow, standIns := [], harness := (true, "cd60491e7eea066fea3cbdb3a3b8d3da9f9c65a0ffb199e6bc5583a157fd0e04"), looks := true }, kinds := [], alts := [], laidByText := true, laidKinds := [.data, .data, .data], laidTests := true, laidLooks := .later }
def FnExactJournalOfUptoCardSaid : Prop := Claim7.holds Tryd.pinned (.plain (OpenSpec.upto fnExactJournalOfSpec)) fnExactJournalOfUptoCard

/-- THE SECOND FORM's CARD OF 'laws.FnExactRecoverJournal'. -/
def fnExactRecoverJournalUptoCard : Claim7 := { stood := { row := fnExactRecoverJournalUptoRow, standIns := [], harness := (true, "cd60491e7eea066fea3cbdb3a3b8d3da9f9c65a0ffb199e6bc5583a157fd0e04"), looks := true }, kinds := [], alts := [], laidByText := true, laidKinds := [.data, .data, .data], laidTests := true, laidLooks := .later }
def FnExactRecoverJournalUptoCardSaid : Prop := Claim7.holds Tryd.pinned (.plain (OpenSpec.upto fnExactRecoverJournalSpec)) fnExactRecoverJournalUptoCard
end Rows
end Go.Proofs.YthlfclnfkgiddaaDoor
