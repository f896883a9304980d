/-
  DERIVED. GIVEN WITH THE SEED: THE CARDS: each row of YtbiobhghnldckaaGreatDoorRows.lean that lists a variable, with what it lists TIED to the program's text (the seventh form; the later family's looks); each row that meets fmt, with fmt's text TOLD by the authors' own Lean function (tested against real Go, not proved from fmt's source: count such statements apart). THE CARD IS WHAT COUNTS. Prove the row's statement (the work); the ties are given (YtbiobhghnldckaaGreatDoorTie.lean); close each card by the builder's one call (the guide's Derived/Test/ToyasCard.lean, 'card_holds'). Laid BY PROGRAM, IN A SANDBOX (cutbox-door.mjs). By AI agents, Wed Nov 11 2026. No macro, syntax, notation, axiom, sorry.
-/
import Derived.Test.YtbiobhghnldckaaGreatDoorRows
import GoSem.ClaimSeven
namespace Go.Proofs.YtbiobhghnldckaaGreatDoor
namespace Rows

/-- THE TIED CARD OF 'adzelaw.Reads'. -/
def readsCard : Claim7 := { stood := { row := readsRow, standIns := [], harness := (true, "cb5346b8b9b0583feb67bdadfeae833f26a94111f033b1abedfe28bfd1489b4d"), looks := false }, kinds := [], alts := [], laidByText := true, laidKinds := [.data, .data, .data, .data, .pinned], laidTests := true, laidLooks := .later }
def ReadsCardSaid : Prop := Claim7.holds Tryz.pinned (.plain (OpenSpec.ofChange readsSpec)) readsCard

/-- THE TIED CARD OF 'adzelaw.Edits'. -/
def editsCard : Claim7 := { stood := { row := editsRow, standIns := [], harness := (true, "cb5346b8b9b0583feb67bdadfeae833f26a94111f033b1abedfe28bfd1489b4d"), looks := false }, kinds := [], alts := [], laidByText := true, laidKinds := [.data, .data, .data, .data, .pinned], laidTests := true, laidLooks := .later }
def EditsCardSaid : Prop := Claim7.holds Tryz.pinned (.plain (OpenSpec.ofChange editsSpec)) editsCard

/-- THE TIED CARD OF 'adzelaw.All'. -/
def allCard : Claim7 := { stood := { row := allRow, standIns := [], harness := (true, "cb5346b8b9b0583feb67bdadfeae833f26a94111f033b1abedfe28bfd1489b4d"), looks := false }, kinds := [], alts := [], laidByText := true, laidKinds := [.data, .data, .data, .data, .pinned], laidTests := true, laidLooks := .later }
def AllCardSaid : Prop := Claim7.holds Tryz.pinned (.plain (OpenSpec.ofChange allSpec)) allCard

/-- THE TIED CARD OF 'adzekeep.Same'. -/
def sameCard : Claim7 := { stood := { row := sameRow, standIns := [], harness := (true, "cb5346b8b9b0583feb67bdadfeae833f26a94111f033b1abedfe28bfd1489b4d"), looks := false }, kinds := [], alts := [], laidByText := true, laidKinds := [.data, .data, .data, .data, .pinned], laidTests := true, laidLooks := .later }
def SameCardSaid : Prop := Claim7.holds Tryz.pinned (.plain (OpenSpec.ofChange sameSpec)) sameCard

/-- THE TIED CARD OF 'adzekeep.Replaced'. -/
def replacedCard : Claim7 := { stood := { row := replacedRow, standIns := [], harness := (true, "cb5346b8b9b0583feb67bdadfeae833f26a94111f033b1abedfe28bfd1489b4d"), looks := false }, kinds := [], alts := [], laidByText := true, laidKinds := [.data, .data, .data, .data, .pinned], laidTests := true, laidLooks := .later }
def ReplacedCardSaid : Prop := Claim7.holds Tryz.pinned (.plain (OpenSpec.ofChange replacedSpec)) replacedCard

/-- THE TIED CARD OF 'adzekeep.Runed'. -/
def runedCard : Claim7 := { stood := { row := runedRow, standIns := [], harness := (true, "cb5346b8b9b0583feb67bdadfeae833f26a94111f033b1abedfe28bfd1489b4d"), looks := false }, kinds := [], alts := [], laidByText := true, laidKinds := [.data, .data, .data, .data, .pinned], laidTests := true, laidLooks := .later }
def RunedCardSaid : Prop := Claim7.holds Tryz.pinned (.plain (OpenSpec.ofChange runedSpec)) runedCard

/-- THE TIED CARD OF 'adzekeep.Groups'. -/
def groupsCard : Claim7 := { stood := { row := groupsRow, standIns := [], harness := (true, "cb5346b8b9b0583feb67bdadfeae833f26a94111f033b1abedfe28bfd1489b4d"), looks := false }, kinds := [], alts := [], laidByText := true, laidKinds := [.data, .data, .data, .data, .pinned], laidTests := true, laidLooks := .later }
def GroupsCardSaid : Prop := Claim7.holds Tryz.pinned (.plain (OpenSpec.ofChange groupsSpec)) groupsCard

/-- THE TIED CARD OF 'adzekeep.Numbered'. -/
def numberedCard : Claim7 := { stood := { row := numberedRow, standIns := [], harness := (true, "cb5346b8b9b0583feb67bdadfeae833f26a94111f033b1abedfe28bfd1489b4d"), looks := false }, kinds := [], alts := [], laidByText := true, laidKinds := [.data, .data, .data, .data, .pinned], laidTests := true, laidLooks := .later }
def NumberedCardSaid : Prop := Claim7.holds Tryz.pinned (.plain (OpenSpec.ofChange numberedSpec)) numberedCard

/-- THE TIED CARD OF 'adzekeep.Queued'. -/
def queuedCard : Claim7 := { stood := { row := queuedRow, standIns := [], harness := (true, "cb5346b8b9b0583feb67bdadfeae833f26a94111f033b1abedfe28bfd1489b4d"), looks := false }, kinds := [], alts := [], laidByText := true, laidKinds := [.data, .data, .data, .data, .pinned], laidTests := true, laidLooks := .later }
def QueuedCardSaid : Prop := Claim7.holds Tryz.pinned (.plain (OpenSpec.ofChange queuedSpec)) queuedCard

/-- THE TIED CARD OF 'adzekeep.Turned'. -/
def turnedCard : Claim7 := { stood := { row := turnedRow, standIns := [], harness := (true, "cb5346b8b9b0583feb67bdadfeae833f26a94111f033b1abedfe28bfd1489b4d"), looks := false }, kinds := [], alts := [], laidByText := true, laidKinds := [.data, .data, .data, .data, .pinned], laidTests := true, laidLooks := .later }
def TurnedCardSaid : Prop := Claim7.holds Tryz.pinned (.plain (OpenSpec.ofChange turnedSpec)) turnedCard

/-- THE TIED CARD OF 'adzekeep.Joined'. -/
def joinedCard : Claim7 := { stood := { row := joinedRow, standIns := [], harness := (true, "cb5346b8b9b0583feb67bdadfeae833f26a94111f033b1abedfe28bfd1489b4d"), looks := false }, kinds := [], alts := [], laidByText := true, laidKinds := [.data, .data, .data, .data, .pinned], laidTests := true, laidLooks := .later }
def JoinedCardSaid : Prop := Claim7.holds Tryz.pinned (.plain (OpenSpec.ofChange joinedSpec)) joinedCard

/-- THE SECOND FORM's CARD OF 'adzelaw.Reads'. -/
def readsUptoCard : Claim7 := { stood := { row := readsUptoRow, standIns := [], harness := (true, "cb5346b8b9b0583feb67bdadfeae833f26a94111f033b1abedfe28bfd1489b4d"), looks := false }, kinds := [], alts := [], laidByText := true, laidKinds := [.data, .data, .data, .data, .pinned], laidTests := true, laidLooks := .later }
def ReadsUptoCardSaid : Prop := Claim7.holds Tryz.pinned (.plain (OpenSpec.upto readsSpec)) readsUptoCard

/-- THE SECOND FORM's CARD OF 'adzelaw.Edits'. -/
def editsUptoCard : Claim7 := { stood := { row := editsUptoRow, standIns := [], harness := (true, "cb5346b8b9b0583feb67bdadfeae833f26a94111f033b1abedfe28bfd1489b4d"), looks := false }, kinds := [], alts := [], laidByText := true, laidKinds := [.data, .data, .data, .data, .pinned], laidTests := true, laidLooks := .later }
def EditsUptoCardSaid : Prop := Claim7.holds Tryz.pinned (.plain (OpenSpec.upto editsSpec)) editsUptoCard

/-- THE SECOND FORM's CARD OF 'adzelaw.All'. -/
def allUptoCard : Claim7 := { stood := { row := allUptoRow, standIns := [], harness := (true, "cb5346b8b9b0583feb67bdadfeae833f26a94111f033b1abedfe28bfd1489b4d"), looks := false }, kinds := [], alts := [], laidByText := true, laidKinds := [.data, .data, .data, .data, .pinned], laidTests := true, laidLooks := .later }
def AllUptoCardSaid : Prop := Claim7.holds Tryz.pinned (.plain (OpenSpec.upto allSpec)) allUptoCard

/-- THE SECOND FORM's CARD OF 'adzekeep.Same'. -/
def sameUptoCard : Claim7 := { stood := { row := sameUptoRow, standIns := [], harness := (true, "cb5346b8b9b0583feb67bdadfeae833f26a94111f033b1abedfe28bfd1489b4d"), looks := false }, kinds := [], alts := [], laidByText := true, laidKinds := [.data, .data, .data, .data, .pinned], laidTests := true, laidLooks := .later }
def SameUptoCardSaid : Prop := Claim7.holds Tryz.pinned (.plain (OpenSpec.upto sameSpec)) sameUptoCard

/-- THE SECOND FORM's CARD OF 'adzekeep.Replaced'. -/
def replacedUptoCard : Claim7 := { stood := { row := replacedUptoRow, standIns := [], harness := (true, "cb5346b8b9b0583feb67bdadfeae833f26a94111f033b1abedfe28bfd1489b4d"), looks := false }, kinds := [], alts := [], laidByText := true, laidKinds := [.data, .data, .data, .data, .pinned], laidTests := true, laidLooks := .later }
def ReplacedUptoCardSaid : Prop := Claim7.holds Tryz.pinned (.plain (OpenSpec.upto replacedSpec)) replacedUptoCard

/-- THE SECOND FORM's CARD OF 'adzekeep.Runed'. -/
def runedUptoCard : Claim7 := { stood := { row := runedUptoRow, standIns := [], harness := (true, "cb5346b8b9b0583feb67bdadfeae833f26a94111f033b1abedfe28bfd1489b4d"), looks := false }, kinds := [], alts := [], laidByText := true, laidKinds := [.data, .data, .data, .data, .pinned], laidTests := true, laidLooks := .later }
def RunedUptoCardSaid : Prop := Claim7.holds Tryz.pinned (.plain (OpenSpec.upto runedSpec)) runedUptoCard

/-- THE SECOND FORM's CARD OF 'adzekeep.Groups'. -/
def groupsUptoCard : Claim7 := { stood := { row := groupsUptoRow, standIns := [], harness := (true, "cb5346b8b9b0583feb67bdadfeae833f26a94111f033b1abedfe28bfd1489b4d"), looks := false }, kinds := [], alts := [], laidByText := true, laidKinds := [.data, .data, .data, .data, .pinned], laidTests := true, laidLooks := .later }
def GroupsUptoCardSaid : Prop := Claim7.holds Tryz.pinned (.plain (OpenSpec.upto groupsSpec)) groupsUptoCard

/-- THE SECOND FORM's CARD OF 'adzekeep.Numbered'. -/
def numberedUptoCard : Claim7 := { stood := { row := numberedUptoRow, standIns := [], harness := (true, "cb5346b8b9b0583feb67bdadfeae833f26a94111f033b1abedfe28bfd1489b4d"), looks := false }, kinds := [], alts := [], laidByText := true, laidKinds := [.data, .data, .data, .data, .pinned], laidTests := true, laidLooks := .later }
def NumberedUptoCardSaid : Prop := Claim7.holds Tryz.pinned (.plain (OpenSpec.upto numberedSpec)) numberedUptoCard

/-- THE SECOND FORM's CARD OF 'adzekeep.Queued'. -/
def queuedUptoCard : Claim7 := { stood := { row := queuedUptoRow, standIns := [], harness := (true, "cb5346b8b9b0583feb67bdadfeae833f26a94111f033b1abedfe28bfd1489b4d"), looks := false }, kinds := [], alts := [], laidByText := true, laidKinds := [.data, .data, .data, .data, .pinned], laidTests := true, laidLooks := .later }
def QueuedUptoCardSaid : Prop := Claim7.holds Tryz.pinned (.plain (OpenSpec.upto queuedSpec)) queuedUptoCard

/-- THE SECOND FORM's CARD OF 'adzekeep.Turned'. -/
def turnedUptoCard : Claim7 := { stood := { row := turnedUptoRow, standIns := [], harness := (true, "cb5346b8b9b0583feb67bdadfeae833f26a94111f033b1abedfe28bfd1489b4d"), looks := false }, kinds := [], alts := [], laidByText := true, laidKinds := [.data, .data, .data, .data, .pinned], laidTests := true, laidLooks := .later }
def TurnedUptoCardSaid : Prop := Claim7.holds Tryz.pinned (.plain (OpenSpec.upto turnedSpec)) turnedUptoCard

/-- THE SECOND FORM's CARD OF 'adzekeep.Joined'. -/
def joinedUptoCard : Claim7 := { stood := { row := joinedUptoRow, standIns := [], harness := (true, "cb5346b8b9b0583feb67bdadfeae833f26a94111f033b1abedfe28bfd1489b4d"), looks := false }, kinds := [], alts := [], laidByText := true, laidKinds := [.data, .data, .data, .data, .pinned], laidTests := true, laidLooks := .later }
def JoinedUptoCardSaid : Prop := Claim7.holds Tryz.pinned (.plain (OpenSpec.upto joinedSpec)) joinedUptoCard
end Rows
end Go.Proofs.YtbiobhghnldckaaGreatDoor
